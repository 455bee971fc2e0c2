"""Deals and lists of shows as texts: written in one way alone, and read only if they are written so."""

from handlocks.courses import are_shows, is_show
from handlocks.deals import LAST_TICK, NEVER, Deal, check_deal
from handlocks.errors import BadCourse, BadText
from handlocks.kinds import is_name
from handlocks.webs import Web

FIGURES = "0123456789"


def line_of(words):
    """The line of these words and numbers."""
    return " ".join([str(word) for word in words]) + "\n"


def deal_text(deal):
    """The text of the deal."""
    check_deal(deal)
    last = deal.last
    lines = [line_of(("parties",) + deal.web.parties)]
    for handing in deal.web.handings:
        lines.append(line_of(("hand",) + handing + last[handing]))
    lines.append(line_of(("leaders",) + deal.leaders))
    lines.append(line_of(("wait", deal.wait)))
    return "".join(lines)


def does_ascend(rows):
    """Whether each one is greater than the one ahead of it."""
    return all([row < following for row, following in zip(rows, rows[1:])])


def number_in(word, least, greatest):
    """The number from the least to the greatest one that Python writes so, None if there is none."""
    for number in range(least, greatest + 1):
        if word == str(number):
            return number
    return None


class DealLines:
    """What the first lines of the text of a deal tell."""

    def __init__(self):
        self.names = []
        self.hands = {}
        self.heads = []
        self.pause = None

    def is_whole(self):
        """Whether no line is missing."""
        return self.pause is not None

    def take(self, line):
        """Whether this line can be the next one; then it is."""
        word, *told = line.split(" ")
        if word == "parties":
            return self.take_parties(told)
        if word == "hand":
            return self.take_hand(told)
        if word == "leaders":
            return self.take_leaders(told)
        return word == "wait" and self.take_wait(told)

    def take_parties(self, told):
        """Whether these parties can stand in the next line."""
        if self.names or not 2 <= len(told) <= 6:
            return False
        if not all([is_name(word) for word in told]) or not does_ascend(told):
            return False
        self.names = told
        return True

    def take_hand(self, told):
        """Whether this handing with its numbers can stand in the next line."""
        if self.heads or len(self.hands) == 12 or len(told) != 2 + len(self.names):
            return False
        giver, taker, *words = told
        row = [number_in(word, NEVER, LAST_TICK) for word in words]
        if giver not in self.names or taker not in self.names or giver == taker or None in row:
            return False
        if any([(giver, taker) <= handing for handing in self.hands]):
            return False
        self.hands[(giver, taker)] = row
        return True

    def take_leaders(self, told):
        """Whether these leaders can stand in the next line."""
        if self.heads or not self.hands or not 1 <= len(told) <= 3:
            return False
        if not all([word in self.names for word in told]) or not does_ascend(told):
            return False
        self.heads = told
        return True

    def take_wait(self, told):
        """Whether this wait can stand in the next line."""
        if not self.heads or self.is_whole() or len(told) != 1:
            return False
        self.pause = number_in(told[0], 1, 5)
        return self.is_whole()


def lines_in(text):
    """The lines of the text without their line feeds, and whether the last one has one."""
    lines = text.split("\n")
    return (lines[:-1], True) if lines[-1] == "" else (lines, False)


def read_deal(text):
    """The deal with exactly this text."""
    if not isinstance(text, str) or text == "":
        raise BadText(0)
    lines, is_ended = lines_in(text)
    found = DealLines()
    for at, line in enumerate(lines):
        if not found.take(line):
            raise BadText(at)
    if not found.is_whole() or not is_ended:
        raise BadText(len(lines))
    return Deal(Web(found.names, list(found.hands)), found.heads, found.hands, found.pause)


def number_text(number):
    """The figures of a number from 0 on. Python itself writes only some thousand of them."""
    pieces = []
    while number >= 10 ** 18:
        number, piece = divmod(number, 10 ** 18)
        pieces.append(str(piece).zfill(18))
    pieces.append(str(number))
    return "".join(pieces[::-1])


def is_number_text(word):
    """Whether Python would write some number from 0 on so."""
    if word == "" or not all([sign in FIGURES for sign in word]):
        return False
    return word == "0" or word[0] != "0"


def number_of(word):
    """The number with these figures. Python itself reads only some thousand of them."""
    number = 0
    for figure in word:
        number = 10 * number + int(figure)
    return number


def shows_text(deal, shows):
    """The text of an ascending list of different shows of the deal, in time or not."""
    check_deal(deal)
    if not are_shows(deal, shows):
        raise BadCourse("this is no ascending list of different shows of the deal")
    return "".join([line_of((number_text(tick),) + handing + trail) for tick, handing, trail in shows])


def show_in(line):
    """What the line tells as a show, be it one of a deal or not; None if it cannot tell one."""
    words = line.split(" ")
    if len(words) < 3 or not is_number_text(words[0]):
        return None
    return (number_of(words[0]), (words[1], words[2]), tuple(words[3:]))


def read_shows(deal, text):
    """The list of shows with exactly this text."""
    check_deal(deal)
    if not isinstance(text, str):
        raise BadText(0)
    lines, is_ended = lines_in(text)
    found = []
    for at, line in enumerate(lines):
        show = show_in(line)
        if not is_show(deal, show) or (len(found) > 0 and show <= found[-1]):
            raise BadText(at)
        found.append(show)
    if not is_ended:
        raise BadText(len(lines))
    return found

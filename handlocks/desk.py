"""A desk: a live board that is told deeds, and asked, by lines of text."""

from handlocks.errors import NoHanding, NoParty, NothingDone, NotNow
from handlocks.journals import do
from handlocks.keeping import goes_through
from handlocks.kinds import is_name
from handlocks.live import Board
from handlocks.losing import in_danger, slack
from handlocks.texts import read_deal

NOTHING = "-"
NOT_UNDERSTOOD = "not understood"


def deed_of(word, names):
    """The deed that a line tells by its first word and the names behind it; None if it tells none."""
    if word == "lay" and len(names) == 1:
        return ("lay", names[0])
    if word == "show" and len(names) >= 3:
        return ("show", (names[0], names[1]), tuple(names[2:]))
    if word in ("start", "tick", "undo") and len(names) == 0:
        return (word,)
    return None


def text_or_nothing(text):
    """The text, or what stands for an empty one."""
    return text if text != "" else NOTHING


def joined(rows):
    """The rows of names, the names separated by blanks."""
    return text_or_nothing("; ".join([" ".join(row) for row in rows]))


def number_or_nothing(number):
    """The number as text, or what stands for None."""
    return NOTHING if number is None else str(number)


class Desk:
    """A desk with a board of the deal with this text."""

    def __init__(self, text):
        self._board = Board(read_deal(text))

    def reply(self, line):
        """The answer to any value."""
        if not isinstance(line, str):
            return NOT_UNDERSTOOD
        word, *names = line.split(" ")
        if not all([is_name(name) for name in names]):
            return NOT_UNDERSTOOD
        try:
            return self.answer(word, names)
        except NoParty:
            return "error NoParty"
        except NoHanding:
            return "error NoHanding"
        except NotNow:
            return "error NotNow"
        except NothingDone:
            return "error NothingDone"

    def answer(self, word, names):
        """The answer to a first word with the names behind it."""
        deed = deed_of(word, names)
        if deed is not None:
            do(self._board, deed)
            return "ok"
        if len(names) == 0:
            return self.told(word)
        if len(names) == 1:
            return self.told_of(word, names[0])
        return NOT_UNDERSTOOD

    def told(self, word):
        """The answer to a question that is one word."""
        board = self._board
        if word == "now":
            return number_or_nothing(board.tick)
        if word == "taken":
            return joined(board.taken)
        if word == "faults":
            return text_or_nothing(" ".join(board.faults()))
        if word == "danger":
            return text_or_nothing(" ".join(in_danger(board.deal)))
        if word == "through":
            return "yes" if goes_through(board.deal) else "no"
        return NOT_UNDERSTOOD

    def told_of(self, word, party):
        """The answer to a question after a party."""
        board = self._board
        if word == "must":
            return joined([handing + trail for handing, trail in board.must(party)])
        if word == "slack":
            return number_or_nothing(slack(board.deal, party))
        return NOT_UNDERSTOOD

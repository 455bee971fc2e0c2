"""Point 110: deals and lists of shows as texts, read as they were written, and nothing else."""

import itertools
import random
import string
import unittest

from handlocks.deals import Deal
from handlocks.errors import BadCourse, BadDeal, BadText
from handlocks.keeping import kept_course
from handlocks.texts import deal_text, read_deal, read_shows, shows_text
from handlocks.webs import Web
from tests import helper
from tests.helper import RING, all_handings, deal_of, strange_values

AB, BC, CA, AC, BA = ("a", "b"), ("b", "c"), ("c", "a"), ("a", "c"), ("b", "a")
DEAL = Deal(RING, ["a", "c"], {AB: [0, -1, 4], BC: [99, 2, 9], CA: [10, 9, 0]}, 2)
TEXT = "parties a b c\nhand a b 0 -1 4\nhand b c 99 2 9\nhand c a 10 9 0\nleaders a c\nwait 2\n"
LINES = TEXT.split("\n")[:-1]
NAMES = ["a", "abcdef", "b", "bb", "z", "zzzzzz"]
BIG = Deal(Web(NAMES, all_handings(NAMES)[::2][:12]), ["abcdef", "z", "zzzzzz"],
           {handing: [-1, 0, 9, 10, 98, 99] for handing in all_handings(NAMES)[::2][:12]}, 5)
OPEN = deal_of(RING, ["a"], [9, 9, 9], 2)
SHOWS = [(0, CA, ("a",)), (2, BC, ("c", "a")), (4, AB, ("b", "c", "a"))]
SHOWS_TEXT = "0 c a a\n2 b c c a\n4 a b b c a\n"


class TextTest(unittest.TestCase):
    def refused(self, line, text):
        with self.assertRaises(BadText) as caught:
            read_deal(text)
        self.assertEqual(caught.exception.line, line)

    def lines_refused(self, line, lines):
        self.refused(line, "".join(part + "\n" for part in lines))

    def shows_refused(self, line, text, deal=OPEN):
        with self.assertRaises(BadText) as caught:
            read_shows(deal, text)
        self.assertEqual(caught.exception.line, line)


class TestDealText(TextTest):
    def test_examples(self):
        self.assertEqual(deal_text(DEAL), TEXT)
        self.assertEqual(deal_text(deal=deal_of(Web(["b", "a"], [BA]), ["b"], [7, -1], 5)), "parties a b\nhand b a 7 -1\nleaders b\nwait 5\n")
        self.assertEqual(deal_text(BIG).split("\n")[0], "parties a abcdef b bb z zzzzzz")
        self.assertEqual(deal_text(BIG).count("\n"), 15)

    def test_read(self):
        self.assertEqual(read_deal(TEXT), DEAL)
        self.assertEqual(read_deal(text=deal_text(BIG)), BIG)
        self.assertEqual(read_deal("parties a b\nhand b a 7 -1\nleaders b\nwait 5\n"), deal_of(Web(["a", "b"], [BA]), ["b"], [7, -1], 5))

    def test_written_and_read(self):
        chance = random.Random(110)
        for web in helper.small_webs()[::3]:
            last = {handing: [chance.randint(-1, 99) for _ in web.parties] for handing in web.handings}
            leaders = chance.sample(web.parties, chance.randint(1, min(3, len(web.parties))))
            deal = Deal(web, leaders, last, chance.randint(1, 5))
            self.assertEqual(read_deal(deal_text(deal)), deal)

    def test_what_is_no_deal(self):
        for value in strange_values() + [RING, TEXT]:
            with self.assertRaises(BadDeal) as caught:
                deal_text(value)
            self.assertEqual(caught.exception.part, "deal")


class TestReadDeal(TextTest):
    def test_no_text_and_the_empty_one(self):
        for value in strange_values() + [LINES, DEAL, (TEXT,), TEXT.encode()]:
            if not isinstance(value, str):
                self.refused(0, value)
        self.refused(0, "")
        self.refused(0, "\n")
        self.refused(0, " ")

    def test_the_line_of_parties(self):
        for line in ["parties", "parties a", "parties a a", "parties b a", "parties a b b", "parties a b c d e f g", "parties a B",
                     "parties a b1", "parties a abcdefg", "parties  a b", "parties a  b", "parties a b ", " parties a b", "Parties a b",
                     "parties\ta b", "party a b", "a b", "", "parties a,b", "parties a -", "parties a 1", "hand a b 0 0", "wait 1"]:
            self.refused(0, line)
            self.refused(0, line + "\n")
            self.lines_refused(0, [line] + LINES[1:])
        for line in ["parties a b", "parties a b c d e f", "parties a aa aaa aaaa aaaaa aaaaaa"]:
            self.refused(1, line)
            self.refused(1, line + "\n")
            self.refused(1, line + "\n\n")

    def test_lines_of_hands(self):
        for line in ["hand", "hand a", "hand a b", "hand a b 0", "hand a b 0 0", "hand a b 0 0 0 0", "hand a a 0 0 0", "hand a d 0 0 0",
                     "hand d a 0 0 0", "hand 0 0 0 a b", "hand a b c 0 0", "hand a b 0 0 x", "hand  a b 0 0 0", "hand a b  0 0 0",
                     "hand a b 0 0  0", "hand a b 0 0 0 ", " hand a b 0 0 0", "hands a b 0 0 0", "", "parties a b c", "leaders a", "wait 2",
                     "hand a b 0 0 ", "hand A b 0 0 0"]:
            self.lines_refused(1, LINES[:1] + [line] + LINES[2:])
        self.refused(2, "parties a b c\nhand a b 0 0 0")

    def test_numbers_as_python_writes_them(self):
        for number in ["-2", "100", "+1", "01", "00", "-0", "-01", "1.0", "1e1", "0x1", "", "--1", "1_0", "x", "-", "999999", "1 ", "\t1", "a"]:
            for words in ([number, "0", "0"], ["0", number, "0"], ["0", "0", number]):
                self.lines_refused(1, LINES[:1] + [" ".join(["hand", "a", "b"] + words)] + LINES[2:])
        for number in range(-1, 100):
            text = f"parties a b\nhand a b 0 {number}\nleaders a\nwait 1\n"
            self.assertEqual(read_deal(text).last, {AB: (0, number)})

    def test_hands_ascend(self):
        self.lines_refused(2, LINES[:2] + LINES[1:])
        self.lines_refused(2, [LINES[0], LINES[2], LINES[1]] + LINES[3:])
        self.lines_refused(3, LINES[:2] + [LINES[3], LINES[2]] + LINES[4:])
        self.lines_refused(3, [LINES[0], LINES[1], LINES[3], "hand a c 0 0 0"] + LINES[4:])

    def test_a_thirteenth_hand(self):
        lines = deal_text(BIG).split("\n")[:-1]
        last = max(BIG.web.handings)
        more = min(pair for pair in all_handings(NAMES) if pair > last)
        self.lines_refused(13, lines[:13] + ["hand " + " ".join(more) + " 0 0 0 0 0 0"] + lines[13:])
        self.assertEqual(read_deal("\n".join(lines[:12] + ["hand " + " ".join(more) + " 0 0 0 0 0 0"] + lines[13:]) + "\n").last[more], (0,) * 6)

    def test_the_line_of_leaders(self):
        for line in ["leaders", "leaders d", "leaders a a", "leaders c a", "leaders a b c d", "leaders  a", "leaders a ", " leaders a",
                     "leader a", "leaders A", "leaders a  c", "", "wait 2", "parties a b c", "hand a b 0 0 0"]:
            self.lines_refused(4, LINES[:4] + [line] + LINES[5:])
        self.lines_refused(1, [LINES[0]] + LINES[4:])
        self.lines_refused(5, LINES[:5] + LINES[4:])
        self.lines_refused(5, LINES[:5] + ["hand c b 0 0 0"] + LINES[5:])
        four = "parties a b c d\nhand a b 0 0 0 0\nleaders "
        self.refused(2, four + "a b c d\nwait 1\n")
        self.assertEqual(read_deal(four + "b c d\nwait 1\n").leaders, ("b", "c", "d"))

    def test_the_line_of_the_wait(self):
        for line in ["wait", "wait 0", "wait 6", "wait -1", "wait 01", "wait +1", "wait  1", "wait 1 ", " wait 1", "wait 1 2", "waits 1", "",
                     "wait a", "Wait 1", "wait 1.0"]:
            self.lines_refused(5, LINES[:5] + [line])
            self.lines_refused(5, LINES[:5] + [line, "wait 2"])
            # Without its line feed, too; but where nothing is the line lacks.
            self.refused(5, "".join(part + "\n" for part in LINES[:5]) + line)
        for wait in range(1, 6):
            self.assertEqual(read_deal("".join(part + "\n" for part in LINES[:5] + [f"wait {wait}"])), DEAL.with_wait(wait))

    def test_a_line_behind_the_wait(self):
        for line in LINES + ["", " ", "x"]:
            self.lines_refused(6, LINES + [line])
        self.refused(6, TEXT + "x")
        self.refused(6, TEXT + "\n")
        self.refused(6, TEXT + "\n\n")
        self.refused(6, TEXT + "wait 2")

    def test_missing_lines(self):
        for many in range(1, 6):
            self.lines_refused(many, LINES[:many])
            self.refused(many, "\n".join(LINES[:many]))

    def test_a_last_line_feed_that_lacks(self):
        self.refused(6, TEXT[:-1])
        self.refused(5, TEXT[:-2])
        self.refused(5, TEXT[:-1] + " ")
        self.refused(5, TEXT[:-1] + "2")

    def test_other_line_ends(self):
        self.refused(0, TEXT.replace("\n", "\r\n"))
        self.refused(0, TEXT.replace("\n", "\r"))
        self.refused(0, "\n" + TEXT)
        self.refused(1, TEXT.replace("\n", "\n\n"))

    def test_changed_signs(self):
        # A text with some signs changed, left out or put in is read only if it is what is written of the deal.
        chance = random.Random(112)
        signs = string.ascii_lowercase[:6] + "0129- \n+Zw"
        texts = [TEXT, deal_text(BIG), "parties a b\nhand b a 7 -1\nleaders b\nwait 5\n"]
        read = 0
        for text in texts:
            for _ in range(1500):
                other = text
                for _ in range(chance.randint(1, 2)):
                    at = chance.randrange(len(other))
                    other = other[:at] + chance.choice(["", chance.choice(signs), chance.choice(signs) + other[at:at + 1]]) + other[at + 1:]
                try:
                    deal = read_deal(other)
                except BadText as error:
                    self.check_line(other, error.line)
                    continue
                read += 1
                self.assertEqual(deal_text(deal), other)
        self.assertGreater(read, 50)

    def check_line(self, text, line):
        """The lines ahead of the one that is told can begin a text, and this one cannot go on with them."""
        lines = text.split("\n")
        begun = lines[:line]
        self.assertTrue(self.can_begin(begun))
        ended = lines[-1] == ""
        many = len(lines) - ended
        self.assertLessEqual(line, many)
        if line < many:
            self.assertFalse(self.can_begin(lines[:line + 1]))
        else:
            self.assertFalse(ended and begun[-1].startswith("wait"))

    def can_begin(self, lines):
        """Whether some text of a deal begins with these lines: whether it does if one plain way to go on is taken."""
        if not lines:
            return True
        words = lines[0].split(" ")[1:]
        more = []
        if len(lines) == 1:
            more = ["hand " + " ".join(words[:2] + ["0"] * len(words))]
        if not any(line.startswith("leaders") for line in lines):
            more += ["leaders " + " ".join(words[:1])]
        if not any(line.startswith("wait") for line in lines):
            more += ["wait 1"]
        whole = "".join(line + "\n" for line in lines + more)
        try:
            return deal_text(read_deal(whole)) == whole
        except BadText:
            return False

    def test_all_texts_of_few_words(self):
        # All rows of some lines: just those are read that are the text of a deal.
        parts = ["parties a b", "parties a c", "hand a b 0 0", "hand b a 1 2", "leaders a", "leaders a b", "wait 1", ""]
        good = {deal_text(Deal(Web(["a", "b"], list(lot)), leaders, {pair: rows[pair] for pair in lot}, 1))
                for rows in [{AB: [0, 0], BA: [1, 2]}] for lot in ([AB], [BA], [AB, BA]) for leaders in (["a"], ["a", "b"])}
        found = set()
        for many in range(6):
            for lines in itertools.product(parts, repeat=many):
                text = "".join(line + "\n" for line in lines)
                try:
                    self.assertEqual(deal_text(read_deal(text)), text)
                    found.add(text)
                except BadText:
                    self.assertNotIn(text, good)
        self.assertEqual(found, good)


class TestShowsText(TextTest):
    def test_examples(self):
        self.assertEqual(shows_text(OPEN, SHOWS), SHOWS_TEXT)
        self.assertEqual(shows_text(shows=(), deal=OPEN), "")
        self.assertEqual(shows_text(OPEN, tuple(SHOWS)), SHOWS_TEXT)
        self.assertEqual(read_shows(OPEN, SHOWS_TEXT), SHOWS)
        self.assertEqual(read_shows(text="", deal=OPEN), [])

    def test_in_time_or_not(self):
        deal = deal_of(RING, ["a"], [-1, -1, -1], 1)
        shows = [(10 ** 6, CA, ("a",))]
        self.assertEqual(shows_text(deal, shows), "1000000 c a a\n")
        self.assertEqual(read_shows(deal, "1000000 c a a\n"), shows)
        # Nor need it be laid, known or the only show of its word there.
        self.assertEqual(read_shows(deal, "0 c a a\n1 c a a\n"), [(0, CA, ("a",)), (1, CA, ("a",))])

    def test_ticks_of_many_figures(self):
        for figures in (19, 36, 37, 1000, 3900, 5000):
            for tick in (10 ** figures - 1, 10 ** (figures - 1), 10 ** (figures - 1) + 7):
                text = self.figures(tick) + " c a a\n"
                self.assertEqual(read_shows(OPEN, text), [(tick, CA, ("a",))])
                self.assertEqual(shows_text(OPEN, [(tick, CA, ("a",))]), text)
            self.shows_refused(0, "0" + "1" * figures + " c a a\n")

    def figures(self, number):
        """The figures of a number of any size, by pieces that Python writes."""
        text = ""
        while number:
            number, piece = divmod(number, 10 ** 500)
            text = (str(piece).zfill(500) if number else str(piece)) + text
        return text or "0"

    def test_many_figures_ascend_as_numbers(self):
        text = "9 c a a\n10 c a a\n" + "9" * 50 + " c a a\n1" + "0" * 50 + " c a a\n"
        self.assertEqual(shows_text(OPEN, read_shows(OPEN, text)), text)
        self.shows_refused(1, "10 c a a\n9 c a a\n")

    def test_written_and_read(self):
        chance = random.Random(113)
        for deal in helper.some_deals([2, 3, 4], 8, 150, 10 ** 12, 114) + [BIG]:
            shows = set(kept_course(deal)[1])
            for handing, leader in itertools.product(deal.web.handings, deal.leaders):
                for trail in helper.plain_trails(deal, handing, leader)[:3]:
                    shows.add((chance.randint(0, 300), handing, trail))
            shows = sorted(shows)[:100]
            self.assertEqual(read_shows(deal, shows_text(deal, shows)), shows)
            told = read_shows(deal, shows_text(deal, shows))
            told.append(None)
            self.assertEqual(read_shows(deal, shows_text(deal, shows)), shows)

    def test_what_are_no_shows(self):
        for value in strange_values() + [
                SHOWS[::-1], SHOWS + SHOWS[-1:], [list(SHOWS[0])], [(0, ["c", "a"], ("a",))], [(0, CA, ["a"])], [(-1, CA, ("a",))],
                [(True, CA, ("a",))], [("0", CA, ("a",))], [(0, AC, ("c", "a"))], [(0, CA, ())], [(0, CA, ("b",))], [(0, CA, ("a", "b"))],
                [(0, BC, ("c", "b", "a"))], [(0, CA, ("a",), 0)], [(0, CA)], [None], SHOWS + [None], dict.fromkeys(SHOWS), SHOWS_TEXT, OPEN]:
            if value in ([], ()):
                continue
            with self.assertRaises(BadCourse) as caught:
                shows_text(OPEN, value)
            self.assertTrue(str(caught.exception))

    def test_what_is_no_deal(self):
        for value in strange_values() + [RING, TEXT]:
            for use in (shows_text, read_shows):
                with self.assertRaises(BadDeal) as caught:
                    use(value, None)
                self.assertEqual(caught.exception.part, "deal")


class TestReadShows(TextTest):
    def test_no_text(self):
        for value in strange_values() + [SHOWS, OPEN, (SHOWS_TEXT,)]:
            if not isinstance(value, str):
                self.shows_refused(0, value)

    def test_lines_that_are_no_shows(self):
        for line in ["", " ", "1", "1 c", "1 c a", "1 c a ", "1 c a b", "1 c a a ", " 1 c a a", "1  c a a", "1 c  a a", "1 c a  a", "+1 c a a",
                     "01 c a a", "-1 c a a", "-0 c a a", "00 c a a", "1.0 c a a", "x c a a", " c a a", "c a a", "1 a c c a", "1 c a a b",
                     "1 c a a a", "1 C a a", "1 b c c b a", "1 b c c", "1 z a a", "1 c c a", "1 c a a\r", "1\tc a a", "1_0 c a a"]:
            self.shows_refused(1, "0 c a a\n" + line + "\n")
            self.shows_refused(1, "0 c a a\n" + line + "\n" + SHOWS_TEXT)
            if line:
                self.shows_refused(0, line + "\n")
                self.shows_refused(1, "0 c a a\n" + line)
        self.shows_refused(0, "\n")
        self.shows_refused(3, SHOWS_TEXT + "\n")
        self.shows_refused(0, "\n" + SHOWS_TEXT)

    def test_what_does_not_ascend(self):
        self.shows_refused(1, "0 c a a\n0 c a a\n")
        self.shows_refused(1, "2 c a a\n1 c a a\n")
        self.shows_refused(2, "0 b c c a\n0 c a a\n0 b c c a\nx\n")
        self.assertEqual(len(read_shows(OPEN, "0 b c c a\n0 c a a\n1 a b b c a\n")), 3)

    def test_a_last_line_feed_that_lacks(self):
        self.shows_refused(3, SHOWS_TEXT[:-1])
        self.shows_refused(1, "0 c a a")
        self.shows_refused(1, "0 c a a\n0 c a")

    def test_changed_signs(self):
        chance = random.Random(115)
        read = 0
        for _ in range(3000):
            other = SHOWS_TEXT
            for _ in range(chance.randint(1, 2)):
                at = chance.randrange(len(other))
                sign = chance.choice("abc019 \n+-")
                other = other[:at] + chance.choice(["", sign, sign + other[at]]) + other[at + 1:]
            try:
                shows = read_shows(OPEN, other)
            except BadText as error:
                lines = other.split("\n")
                begun = "".join(line + "\n" for line in lines[:error.line])
                self.assertEqual(shows_text(OPEN, read_shows(OPEN, begun)), begun)
                if error.line < len(lines) - 1:
                    self.shows_refused(error.line, begun + lines[error.line] + "\n")
                continue
            read += 1
            self.assertEqual(shows_text(OPEN, shows), other)
        self.assertGreater(read, 20)


if __name__ == "__main__":
    unittest.main()

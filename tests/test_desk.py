"""Point 111: a desk, each form of a line and each answer; and that desk, board and journal agree."""

import itertools
import random
import unittest

from handlocks.deals import Deal
from handlocks.desk import Desk
from handlocks.errors import BadText, LockError
from handlocks.journals import first_wrong, replayed
from handlocks.keeping import goes_through
from handlocks.live import Board
from handlocks.losing import in_danger, slack
from handlocks.texts import deal_text
from handlocks.webs import Web
from tests import helper
from tests.helper import RING, all_handings, deal_of, strange_values, values_not_equal_to
from tests.test_live import do, drawn_deed

AB, BC, CA = ("a", "b"), ("b", "c"), ("c", "a")
ALL = ["a", "b", "c"]
DEAL = Deal(RING, ["a"], {AB: [9, 9, 4], BC: [9, 2, 9], CA: [0, 9, 9]}, 2)
TEXT = deal_text(DEAL)
UNKNOWN = "not understood"
QUESTIONS = ["now", "taken", "faults", "danger", "through"] + [f"{word} {party}" for word in ("must", "slack") for party in ALL]


def told(desk, *lines):
    return [desk.reply(line) for line in lines]


def desk_with(*lines, text=TEXT):
    desk = Desk(text)
    for line in lines:
        assert desk.reply(line) == "ok", line
    return desk


def started(text=TEXT):
    return desk_with("lay a", "lay b", "lay c", "start", text=text)


def line_of(deed):
    """The line that tells the deed, which need not be one that can be done."""
    if deed[0] == "show":
        return " ".join(["show", *deed[1], *deed[2]])
    return " ".join(deed)


def plain_answers(board):
    """What a desk with this board answers to each question."""
    deal = board.deal
    found = {"now": "-" if board.tick is None else str(board.tick)}
    found["taken"] = "; ".join(" ".join(handing) for handing in board.taken) or "-"
    found["faults"] = " ".join(board.faults()) or "-"
    found["danger"] = " ".join(in_danger(deal)) or "-"
    found["through"] = "yes" if goes_through(deal) else "no"
    for party in deal.web.parties:
        found[f"must {party}"] = "; ".join(" ".join(handing + trail) for handing, trail in board.must(party)) or "-"
        room = slack(deal, party)
        found[f"slack {party}"] = "-" if room is None else str(room)
    return found


class DeskTest(unittest.TestCase):
    def changes_nothing(self, desk, line, answer):
        before = told(desk, *QUESTIONS)
        self.assertEqual(desk.reply(line), answer)
        self.assertEqual(told(desk, *QUESTIONS), before)


class TestForms(DeskTest):
    def test_from_the_first_line_to_the_last(self):
        desk = Desk(text=TEXT)
        self.assertEqual(told(desk, "lay a", "lay b", "lay c", "start", "must a", "show c a a", "must a"), ["ok"] * 4 + ["c a a", "ok", "-"])
        self.assertEqual(told(desk, "tick", "tick", "must c", "show b c c a", "now", "taken"), ["ok", "ok", "b c c a", "ok", "2", "b c; c a"])
        self.assertEqual(told(desk, "tick", "tick", "tick", "faults"), ["ok", "ok", "ok", "b"])
        self.assertEqual(told(desk, "undo", "faults", "show a b b c a", "taken"), ["ok", "-", "ok", "a b; b c; c a"])

    def test_now(self):
        desk = Desk(TEXT)
        self.assertEqual(desk.reply(line="now"), "-")
        self.assertEqual(told(desk, "start", "now", "tick", "now", "undo", "now", "undo", "now"), ["ok", "0", "ok", "1", "ok", "0", "ok", "-"])
        desk = started()
        for tick in range(1, 13):
            self.assertEqual(told(desk, "tick", "now"), ["ok", str(tick)])

    def test_must(self):
        three = deal_text(deal_of(Web(ALL, all_handings(ALL)), ALL, [9, 9, 9], 1))
        desk = started(three)
        self.assertEqual(desk.reply("must c"), "a c c; b c c")
        self.assertEqual(told(desk, "show b c c", "must c"), ["ok", "a c c"])
        self.assertEqual(Desk(TEXT).reply("must a"), "-")
        self.assertEqual(started().reply("must b"), "-")

    def test_taken(self):
        desk = started()
        self.assertEqual(told(desk, "taken", "show c a a", "taken", "show a b b c a", "taken"), ["-", "ok", "c a", "ok", "a b; c a"])

    def test_faults(self):
        desk = Desk(TEXT)
        self.assertEqual(told(desk, "faults", "lay c", "faults", "lay b", "faults"), ["-", "ok", "c", "ok", "b c"])

    def test_danger_and_through(self):
        self.assertEqual(told(Desk(TEXT), "danger", "through"), ["-", "yes"])
        self.assertEqual(told(Desk(deal_text(deal_of(RING, ["a"], [9, 9, 9], 2))), "danger", "through"), ["b c", "yes"])
        sound = Deal(RING, ["a"], {AB: [-1, -1, 4], BC: [-1, 2, -1], CA: [0, -1, -1]}, 2)
        self.assertEqual(told(Desk(deal_text(sound)), "danger", "through"), ["-", "yes"])
        late = sound.with_last(AB, 2, 3)
        self.assertEqual(told(Desk(deal_text(late)), "danger", "through"), ["b", "no"])

    def test_slack(self):
        deal = Deal(RING, ["a"], {AB: [-1, -1, 14], BC: [-1, 2, -1], CA: [3, -1, -1]}, 2)
        self.assertEqual(told(Desk(deal_text(deal)), "slack a", "slack b", "slack c"), ["-", "10", "-3"])
        self.assertEqual(Desk(deal_text(deal.with_last(AB, 2, 4))).reply("slack b"), "0")

    def test_names_of_six_letters(self):
        deal = deal_of(Web(["a", "lastly"], [("a", "lastly"), ("lastly", "a")]), ["lastly"], [9, 9], 1)
        desk = desk_with("lay a", "lay lastly", "start", "show a lastly lastly", text=deal_text(deal))
        self.assertEqual(told(desk, "taken", "tick", "must a"), ["a lastly", "ok", "lastly a a lastly"])
        self.assertEqual(told(desk, "show lastly a a lastly"), ["ok"])

    def test_undo_of_all(self):
        desk = started()
        self.assertEqual(told(desk, *["undo"] * 5), ["ok"] * 4 + ["error NothingDone"])
        self.assertEqual(told(desk, "now", "faults", "lay b", "faults"), ["-", "-", "ok", "b"])


class TestErrors(DeskTest):
    def test_no_party(self):
        for desk in (Desk(TEXT), started()):
            for line in ("lay d", "lay abcdef", "must d", "must abcdef", "slack d", "slack z"):
                self.changes_nothing(desk, line, "error NoParty")

    def test_no_handing(self):
        for desk in (Desk(TEXT), started()):
            for line in ("show a c c", "show b a a", "show a a a", "show z a a", "show c z a", "show a c z"):
                self.changes_nothing(desk, line, "error NoHanding")

    def test_not_now(self):
        desk = desk_with("lay a")
        for line in ("lay a", "tick", "show a b b c a", "show a b z"):
            self.changes_nothing(desk, line, "error NotNow")
        desk = started()
        for line in ("lay a", "start", "show c a z", "show c a c a", "show b c c b a", "show b c c", "show c a a a"):
            self.changes_nothing(desk, line, "error NotNow")
        desk.reply("show c a a")
        self.changes_nothing(desk, "show c a a", "error NotNow")
        desk = desk_with("start")
        self.changes_nothing(desk, "show c a a", "error NotNow")

    def test_nothing_done(self):
        self.changes_nothing(Desk(TEXT), "undo", "error NothingDone")

    def test_errors_are_not_undone(self):
        desk = started()
        self.assertEqual(told(desk, "lay a", "undo", "now"), ["error NotNow", "ok", "-"])


class TestNotUnderstood(DeskTest):
    LINES = ["", " ", "lay", "lay ", "lay a b", "lay A", "lay abcdefg", "lay a1", "lay  a", " lay a", "lay a ", "lay\ta", "lay a\n", "Lay a",
             "lay 1", "lay -", "LAY a", "lays a", "start a", "start ", " start", "start\n", "Start", "starts", "show", "show a", "show a b",
             "show c a ", "show c a  a", "show c a A", "show c a abcdefg", "show  c a a", "show c a a ", "show c a, a", "show C a a", "show 1 a a",
             "show (c a) a", "tick tock", "tick ", "tick 1", "ticks", "pass_tick", "undo a", "undo ", "undo undo", "must", "must ", "must a b",
             "must A", "must a ", "now ", "now a", "Now", "taken a", "taken ", "faults a", "faults ", "danger a", "danger b c", "through a", "through ",
             "slack", "slack ", "slack a b", "slack A", "slack 1", "slack a ", "a", "a b c d", "ok", "error NotNow", "not understood", "lay a; lay b",
             "lay a\nlay b", "copy", "tried", "log", "course", "tick\n", "undo\n", "now\n"]

    def test_lines(self):
        for desk in (Desk(TEXT), started(), desk_with("lay a", "lay b", "lay c", "start", "show c a a", "tick")):
            for line in self.LINES:
                self.changes_nothing(desk, line, UNKNOWN)

    def test_any_value(self):
        desk = started()
        for value in strange_values() + [["tick"], ("tick",), {"tick": 1}, DEAL, desk, b"tick", ["lay", "a"]]:
            self.changes_nothing(desk, value, UNKNOWN)


class TestDesks(DeskTest):
    def test_errors_of_its_text(self):
        for text, line in (("", 0), ("x", 0), (TEXT[:-1], 6), (TEXT + "x", 6), (TEXT.replace("wait 2", "wait 9"), 5), (None, 0), (DEAL, 0)):
            with self.assertRaises(BadText) as caught:
                Desk(text)
            self.assertEqual(caught.exception.line, line)
        for value in strange_values():
            with self.assertRaises(BadText) as caught:
                Desk(value)
            self.assertEqual(caught.exception.line, 0)

    def test_desks_are_independent(self):
        one, other = Desk(TEXT), Desk(TEXT)
        one.reply("start")
        self.assertEqual((one.reply("now"), other.reply("now")), ("0", "-"))

    def test_is_not_iterated_over_and_equals_nothing_else(self):
        desk = Desk(TEXT)
        for use in (iter, list, lambda thing: "now" in thing):
            with self.assertRaises(TypeError):
                use(desk)
        for value in values_not_equal_to(desk) + [DEAL, TEXT, Board(DEAL)]:
            self.assertFalse(desk == value)
            self.assertTrue(desk != value)


class TestAgainstBoards(DeskTest):
    DEALS = helper.some_deals([2, 3, 3, 4], 6, 60, 10 ** 9, 116) + [DEAL, deal_of(Web(ALL, all_handings(ALL)), ALL, [1, 2, 3], 1)]

    def check_answers(self, desk, board):
        for line, answer in plain_answers(board).items():
            self.assertEqual(desk.reply(line), answer, line)

    def test_desk_board_and_journal_agree(self):
        chance = random.Random(117)
        counts = {}
        for deal in self.DEALS:
            desk, board, journal = Desk(deal_text(deal)), Board(deal), []
            for _ in range(40):
                deed = drawn_deed(chance, deal, board)
                try:
                    do(board, deed)
                    expected = "ok"
                    journal.append((deed, board.taken))
                except LockError as error:
                    expected = "error " + type(error).__name__
                    self.assertEqual(first_wrong(deal, journal + [(deed, board.taken)]), len(journal))
                counts[deed[0], expected] = counts.get((deed[0], expected), 0) + 1
                self.assertEqual(desk.reply(line_of(deed)), expected)
                self.check_answers(desk, board)
            self.assertEqual(replayed(deal, journal), board)
        for word in ("lay", "start", "show", "tick", "undo"):
            self.assertGreater(counts[word, "ok"], 20)
        for word in ("lay", "start", "show"):
            self.assertGreater(counts[word, "error NotNow"], 20)
        self.assertGreater(counts["undo", "error NothingDone"], 0)

    def test_drawn_lines(self):
        # A line is answered by what it is: a deed, a question, or nothing of these.
        chance = random.Random(118)
        forms = {"lay": 1, "must": 1, "slack": 1, "start": 0, "tick": 0, "undo": 0, "now": 0, "taken": 0, "faults": 0, "danger": 0,
                 "through": 0}
        words = list(forms) + ["show", "a", "b", "c", "c", "a", "d", "A", ""]
        seen = set()
        for _ in range(30):
            desk, board = Desk(TEXT), Board(DEAL)
            for _ in range(120):
                line = " ".join(chance.choice(words) for _ in range(chance.choice([1, 1, 2, 2, 3, 4, 4, 5])))
                word, *names = line.split(" ")
                is_form = all(name.isalpha() and name.islower() and len(name) <= 6 for name in names)
                is_form = is_form and (len(names) == forms[word] if word in forms else word == "show" and len(names) > 2)
                answer = desk.reply(line)
                self.assertEqual(answer == UNKNOWN, not is_form)
                if is_form and word in ("lay", "start", "tick", "undo", "show"):
                    deed = (word, *names) if word != "show" else (word, tuple(names[:2]), tuple(names[2:]))
                    try:
                        do(board, deed)
                        self.assertEqual(answer, "ok")
                    except LockError as error:
                        self.assertEqual(answer, "error " + type(error).__name__)
                elif is_form:
                    self.assertEqual(answer, plain_answers(board).get(line, "error NoParty"))
                seen.add((word if is_form else None, answer.split(" ")[0]))
        self.assertTrue({("lay", "ok"), ("show", "error"), ("undo", "ok"), (None, "not"), ("must", "-"), ("slack", "error")} <= seen)

    def test_questions_change_nothing(self):
        desk = started()
        before = told(desk, *QUESTIONS)
        for line, _ in itertools.product(QUESTIONS, range(2)):
            desk.reply(line)
        self.assertEqual(told(desk, *QUESTIONS), before)


if __name__ == "__main__":
    unittest.main()

"""Point 101: journals of a board, the first wrong entry of any value as journal, and the board behind one."""

import random
import unittest

from handlocks.deals import Deal
from handlocks.errors import BadDeal, BadJournal, LockError
from handlocks.journals import first_wrong, journal_of, replayed
from handlocks.live import Board
from tests import helper
from tests.helper import RING, deal_of, strange_values
from tests.test_live import do, drawn_deed, kept

AB, BC, CA = ("a", "b"), ("b", "c"), ("c", "a")
DEAL = Deal(RING, ["a"], {AB: [9, 9, 4], BC: [9, 2, 9], CA: [0, 9, 9]}, 2)
OPEN = deal_of(RING, ["a"], [9, 9, 9], 2)
JOURNAL = [
    (("lay", "a"), ()), (("lay", "b"), ()), (("lay", "c"), ()), (("start",), ()), (("show", CA, ("a",)), (CA,)), (("tick",), (CA,)),
    (("tick",), (CA,)), (("show", BC, ("c", "a")), (BC, CA)), (("tick",), (BC, CA)), (("tick",), (BC, CA)),
    (("show", AB, ("b", "c", "a")), (AB, BC, CA)),
]
UNDONE = [(("lay", "c"), ()), (("undo",), ()), (("lay", "a"), ()), (("lay", "c"), ()), (("start",), ()),
          (("show", CA, ("a",)), (CA,)), (("undo",), ()), (("undo",), ()), (("lay", "b"), ())]


class TestJournalOf(unittest.TestCase):
    def test_examples(self):
        self.assertEqual(journal_of(kept()), JOURNAL)
        self.assertEqual(journal_of(Board(DEAL)), [])
        self.assertEqual(journal_of(replayed(DEAL, UNDONE)), [(("lay", deed), ()) for deed in "acb"])

    def test_kinds_and_the_board_stays(self):
        board = kept()
        log = board.log
        told = journal_of(board=board)
        self.assertIs(type(told), list)
        self.assertEqual({(type(entry), type(entry[0]), type(entry[1])) for entry in told}, {(tuple, tuple, tuple)})
        told.clear()
        self.assertEqual(board.log, log)
        self.assertEqual(journal_of(board), JOURNAL)

    def test_within_a_block(self):
        board = Board(DEAL)
        with board:
            board.lay("a")
            self.assertEqual(journal_of(board), [(("lay", "a"), ())])
        board.undo()
        self.assertEqual(board.log, [])


class TestFirstWrong(unittest.TestCase):
    def wrong_at(self, at, journal, deal=DEAL):
        before = repr(journal)
        self.assertEqual(first_wrong(deal, journal), at)
        self.assertEqual(repr(journal), before)
        if at is None:
            self.assertEqual(replayed(deal, journal).deal, deal)
        else:
            with self.assertRaises(BadJournal) as caught:
                replayed(deal, journal)
            self.assertEqual(caught.exception.at, at)

    def test_none(self):
        for at in range(len(JOURNAL) + 1):
            self.wrong_at(None, JOURNAL[:at])
        self.wrong_at(None, UNDONE)
        self.wrong_at(None, tuple(JOURNAL))
        self.wrong_at(None, ())

    def test_no_list(self):
        for value in strange_values() + [DEAL, kept(), JOURNAL[0][0]]:
            if not isinstance(value, (list, tuple)):
                self.wrong_at(0, value)
        self.wrong_at(0, dict(enumerate(JOURNAL)))

    def test_entries_that_are_no_pairs(self):
        for value in strange_values() + [list(JOURNAL[2]), JOURNAL[2][0], JOURNAL[2] + ((),), JOURNAL[2][:1], DEAL]:
            self.wrong_at(2, JOURNAL[:2] + [value])
            self.wrong_at(2, JOURNAL[:2] + [value] + JOURNAL[3:])
            self.wrong_at(0, [value])

    def test_deeds_that_are_none(self):
        for value in strange_values() + ["lay", "undo", ["lay", "c"], ("lay",), ("lay", "c", "c"), ("Lay", "c"), ("start", "c"),
                                         ("tick", 0), ("show", CA), ("show", CA, ("a",), 0), ("show",), ("undo", 1), (("lay", "c"),),
                                         ("undo", "undo"), ["undo"], ("lay", ["c"]), ("pass_tick",), (None, "c"), ([], "c"), DEAL]:
            self.wrong_at(2, JOURNAL[:2] + [(value, ())])
        for deed in [("shown", CA, ("a",)), ("lay", CA, ("a",)), ("", CA, ("a",)), (None, CA, ("a",)), ["show", CA, ("a",)]]:
            self.wrong_at(4, JOURNAL[:4] + [(deed, (CA,))])

    def test_deeds_that_are_refused(self):
        for deed in [("lay", "a"), ("lay", "z"), ("lay", ("c",)), ("lay", None), ("tick",), ("show", CA, ("a",))]:
            self.wrong_at(2, JOURNAL[:2] + [(deed, ())])
        self.wrong_at(4, JOURNAL[:4] + [(("start",), ())])
        self.wrong_at(4, JOURNAL[:4] + [(("lay", "c"), ())])
        self.wrong_at(5, JOURNAL[:5] + [(("show", CA, ("a",)), (CA,))])
        self.wrong_at(5, JOURNAL[:5] + JOURNAL[4:])
        self.wrong_at(6, JOURNAL[:6] + [(("show", ["a", "b"], ("b", "c", "a")), (AB, CA))])
        self.wrong_at(6, JOURNAL[:6] + [(("show", AB, ["b", "c", "a"]), (AB, CA))])
        self.wrong_at(6, JOURNAL[:6] + [(("show", ("a", "c"), ("c", "a")), (CA,))])
        # At tick 3 it is too late at (b, c).
        self.wrong_at(8, JOURNAL[:7] + [(("tick",), (CA,)), JOURNAL[7]])

    def test_undo_ahead_of_any_deed(self):
        self.wrong_at(0, [(("undo",), ())])
        self.wrong_at(0, [(("undo",), ())] + JOURNAL)
        self.wrong_at(2, [JOURNAL[0], (("undo",), ()), (("undo",), ())])
        self.wrong_at(None, [JOURNAL[0], (("undo",), ())] + JOURNAL)

    def test_what_is_not_taken(self):
        for value in strange_values():
            if value != ():
                self.wrong_at(3, JOURNAL[:3] + [(("start",), value)])
        for value in [(), [CA], ((CA,),), CA, (CA, CA), (["c", "a"],), (BC, CA), (AB, CA), True, None, {CA: True}]:
            self.wrong_at(4, JOURNAL[:4] + [(JOURNAL[4][0], value)] + JOURNAL[5:])
        self.wrong_at(7, JOURNAL[:7] + [(JOURNAL[7][0], (CA, BC))])
        self.wrong_at(6, UNDONE[:6] + [(("undo",), (CA,))])

    def test_the_first_one_is_told(self):
        self.wrong_at(1, [JOURNAL[0], None, None, JOURNAL[0]])
        self.wrong_at(0, [(("lay", "a"), (CA,)), None])

    def test_each_change_of_an_entry_is_found(self):
        for at, (deed, gone) in enumerate(JOURNAL):
            self.wrong_at(at, JOURNAL[:at] + [(deed, gone + (AB,))] + JOURNAL[at + 1:])
            self.wrong_at(at, JOURNAL[:at] + [(deed + ("a",), gone)] + JOURNAL[at + 1:])

    def test_by_name(self):
        self.assertIsNone(first_wrong(journal=JOURNAL, deal=DEAL))

    def test_longer_than_any_log(self):
        self.wrong_at(None, [JOURNAL[0], (("undo",), ())] * 150 + JOURNAL)
        self.wrong_at(300, [JOURNAL[0], (("undo",), ())] * 150 + [(("undo",), ())])


class TestReplayed(unittest.TestCase):
    def test_examples(self):
        self.assertEqual(replayed(DEAL, JOURNAL), kept())
        self.assertEqual(replayed(journal=(), deal=DEAL), Board(DEAL))
        board = replayed(DEAL, UNDONE)
        self.assertEqual(board.log, [("lay", "a"), ("lay", "c"), ("lay", "b")])
        board.undo()
        board.start()
        self.assertEqual(board.tick, 0)

    def test_new_each_time(self):
        board = replayed(DEAL, JOURNAL)
        board.undo()
        self.assertEqual(replayed(DEAL, JOURNAL), kept())

    def test_later_changes_have_no_effect(self):
        journal = list(JOURNAL)
        board = replayed(DEAL, journal)
        journal.clear()
        self.assertEqual(board, kept())

    def test_what_is_no_deal(self):
        for value in strange_values() + [RING, kept()]:
            for use in (first_wrong, replayed):
                with self.assertRaises(BadDeal) as caught:
                    use(value, None)
                self.assertEqual(caught.exception.part, "deal")


class TestDrawnDeeds(unittest.TestCase):
    DEALS = helper.some_deals([2, 3, 3, 4], 6, 80, 10 ** 9, 110) + [DEAL, OPEN]

    def test_what_a_board_did_is_its_journal(self):
        chance = random.Random(111)
        undos = 0
        for deal in self.DEALS:
            board, journal = Board(deal), []
            for _ in range(40):
                deed = drawn_deed(chance, deal, board)
                try:
                    do(board, deed)
                except LockError:
                    # Whatever is taken, a deed that the board refuses is wrong there.
                    self.assertEqual(first_wrong(deal, journal + [(deed, board.taken)]), len(journal))
                    continue
                journal.append((deed, board.taken))
                undos += deed == ("undo",)
            self.assertIsNone(first_wrong(deal, journal))
            self.assertEqual(replayed(deal, journal), board)
            self.assertEqual(replayed(deal, journal_of(board)), board)
            self.assertEqual([deed for deed, _ in journal_of(board)], board.log)
            self.assertIsNone(first_wrong(deal, journal_of(board)))
            for at in chance.sample(range(len(journal)), 3):
                deed, gone = journal[at]
                wrong = gone[1:] if gone else deal.web.handings[:1]
                self.assertEqual(first_wrong(deal, journal[:at] + [(deed, wrong)] + journal[at + 1:]), at)
        self.assertGreater(undos, 100)


if __name__ == "__main__":
    unittest.main()

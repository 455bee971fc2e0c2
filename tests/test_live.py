"""Point 100: a live board, by examples, wrong inputs, blocks, and drawn rows of deeds and undos."""

import itertools
import random
import unittest

from handlocks.back import first_fault, keepers_in
from handlocks.courses import is_course, must_show, taken
from handlocks.deals import Deal
from handlocks.errors import BadDeal, LockError, NoHanding, NoParty, NothingDone, NotNow
from handlocks.keeping import kept_course
from handlocks.live import Board
from handlocks.webs import Web
from tests import helper
from tests.helper import RING, all_handings, deal_of, strange_values, values_not_equal_to

AB, BC, CA, BA, BD, CD = ("a", "b"), ("b", "c"), ("c", "a"), ("b", "a"), ("b", "d"), ("c", "d")
ALL = ["a", "b", "c"]
DEAL = Deal(RING, ["a"], {AB: [9, 9, 4], BC: [9, 2, 9], CA: [0, 9, 9]}, 2)
OPEN = deal_of(RING, ["a"], [9, 9, 9], 2)
FORKED = deal_of(Web(list("abcd"), [AB, BC, BD, CD]), ["d"], [9, 9, 9, 9], 1)


class Stop(Exception):
    """What is raised in blocks."""


def laid(deal=DEAL, laying=("a", "b", "c")):
    """A board on which these have laid."""
    board = Board(deal)
    for party in laying:
        board.lay(party)
    return board


def started(deal=DEAL, laying=("a", "b", "c"), ticks=0):
    """A board on which the laying is over, so many ticks later."""
    board = laid(deal, laying)
    board.start()
    for _ in range(ticks):
        board.pass_tick()
    return board


def kept():
    """A board on which all have kept the rules, at tick 4."""
    board = started()
    board.show(CA, ("a",))
    board.pass_tick()
    board.pass_tick()
    board.show(BC, ("c", "a"))
    board.pass_tick()
    board.pass_tick()
    board.show(AB, ("b", "c", "a"))
    return board


def state_of(board):
    """All that a board tells."""
    return (board.deal, board.tick, board.course, board.log, board.taken, board.faults(),
            [board.must(party) for party in board.deal.web.parties])


class BoardTest(unittest.TestCase):
    def refused(self, board, error, use, attribute=None, value=None):
        """The deed is refused with this error, and changes nothing."""
        before = state_of(board)
        with self.assertRaises(error) as caught:
            use()
        self.assertIs(type(caught.exception), error)
        if attribute:
            self.assertEqual(getattr(caught.exception, attribute), value)
        self.assertEqual(state_of(board), before)

    def not_now(self, board, word, use):
        self.refused(board, NotNow, use, "word", word)


class TestDeeds(BoardTest):
    def test_a_new_board(self):
        board = Board(deal=DEAL)
        self.assertEqual(state_of(board), (DEAL, None, ([], []), [], (), (), [[], [], []]))

    def test_from_the_first_deed_to_the_last(self):
        board = kept()
        shows = [(0, CA, ("a",)), (2, BC, ("c", "a")), (4, AB, ("b", "c", "a"))]
        self.assertEqual(board.tick, 4)
        self.assertEqual(board.course, (ALL, shows))
        self.assertEqual(board.course, kept_course(DEAL))
        self.assertEqual(board.log, [("lay", "a"), ("lay", "b"), ("lay", "c"), ("start",), ("show", CA, ("a",)), ("tick",),
                                     ("tick",), ("show", BC, ("c", "a")), ("tick",), ("tick",),
                                     ("show", AB, ("b", "c", "a"))])
        self.assertEqual(board.taken, (AB, BC, CA))
        self.assertEqual(board.faults(), ())

    def test_lay(self):
        board = Board(DEAL)
        board.lay(party="b")
        board.lay("a")
        self.assertEqual(board.course, (["b", "a"], []))
        self.not_now(board, "lay", lambda: board.lay("b"))
        board.lay("c")
        board.start()
        for party in ALL:
            self.not_now(board, "lay", lambda: board.lay(party))

    def test_nobody_lays(self):
        board = started(laying=())
        self.assertEqual((board.tick, board.course), (0, ([], [])))
        self.not_now(board, "show", lambda: board.show(CA, ("a",)))
        self.not_now(board, "lay", lambda: board.lay("a"))
        board.pass_tick()
        self.assertEqual(board.faults(), ())

    def test_start(self):
        board = Board(DEAL)
        board.start()
        self.assertEqual(board.tick, 0)
        self.not_now(board, "start", board.start)
        board.pass_tick()
        self.not_now(board, "start", board.start)

    def test_pass_tick(self):
        board = laid()
        self.not_now(board, "tick", board.pass_tick)
        board.start()
        for tick in range(1, 20):
            board.pass_tick()
            self.assertEqual(board.tick, tick)

    def test_show(self):
        board = laid()
        self.not_now(board, "show", lambda: board.show(CA, ("a",)))
        board.start()
        board.show(trail=("a",), handing=CA)
        self.not_now(board, "show", lambda: board.show(CA, ("a",)))
        board.pass_tick()
        self.not_now(board, "show", lambda: board.show(CA, ("a",)))
        board.show(AB, ("b", "c", "a"))
        self.assertEqual(board.course[1], [(0, CA, ("a",)), (1, AB, ("b", "c", "a"))])
        self.assertEqual(board.taken, (AB, CA))

    def test_show_in_the_last_tick_and_behind_it(self):
        board = started(ticks=2)
        board.show(BC, ("c", "a"))
        board.undo()
        board.pass_tick()
        self.not_now(board, "show", lambda: board.show(BC, ("c", "a")))
        board.pass_tick()
        board.show(AB, ("b", "c", "a"))
        board.undo()
        board.pass_tick()
        self.not_now(board, "show", lambda: board.show(AB, ("b", "c", "a")))
        self.not_now(board, "show", lambda: board.show(CA, ("a",)))
        never = started(DEAL.with_last(CA, 0, -1))
        self.not_now(never, "show", lambda: never.show(CA, ("a",)))

    def test_show_what_is_no_trail_of_the_handing(self):
        board = started(OPEN)
        for value in strange_values() + ["a", ["a"], ("c", "a"), ("b",), ("a", "a"), ("a", "b", "c"), ("a", "b", "a"), DEAL]:
            self.not_now(board, "show", lambda: board.show(CA, value))
        self.not_now(board, "show", lambda: board.show(BC, ["c", "a"]))
        self.not_now(board, "show", lambda: board.show(BC, ("c", "b", "a")))
        board.show(BC, ("c", "a"))

    def test_show_where_nothing_is_laid(self):
        board = started(laying=("a", "b"))
        self.not_now(board, "show", lambda: board.show(CA, ("a",)))
        board.show(BC, ("c", "a"))

    def test_no_word_twice_at_one_handing(self):
        board = started(FORKED, "abcd")
        board.show(AB, ("b", "d"))
        self.not_now(board, "show", lambda: board.show(AB, ("b", "c", "d")))
        board.show(BC, ("c", "d"))
        both = started(deal_of(RING, ["a", "b"], [9, 9, 9], 1))
        both.show(AB, ("b",))
        both.show(AB, ("b", "c", "a"))
        self.assertEqual(both.taken, (AB,))

    def test_shows_of_one_tick_ascend_in_the_course(self):
        board = started(OPEN)
        board.show(CA, ("a",))
        board.show(AB, ("b", "c", "a"))
        self.assertEqual(board.course[1], [(0, AB, ("b", "c", "a")), (0, CA, ("a",))])
        self.assertEqual(board.log[-2:], [("show", CA, ("a",)), ("show", AB, ("b", "c", "a"))])

    def test_what_is_no_party_and_no_handing(self):
        for board in (Board(DEAL), laid(), started()):
            for value in strange_values() + ["d", ("a",), ["a"], DEAL]:
                self.refused(board, NoParty, lambda: board.lay(value), "party", value)
                self.refused(board, NoParty, lambda: board.must(value), "party", value)
            for value in strange_values() + ["ab", ["a", "b"], BA, ("a", "a"), ("a", "b", "c"), DEAL]:
                self.refused(board, NoHanding, lambda: board.show(value, None), "handing", value)

    def test_what_is_no_deal(self):
        for value in strange_values() + [RING, Board(DEAL)]:
            with self.assertRaises(BadDeal) as caught:
                Board(value)
            self.assertEqual(caught.exception.part, "deal")

    def test_methods_return_none(self):
        board = Board(DEAL)
        told = [board.lay("a"), board.lay("b"), board.lay("c"), board.start(), board.show(CA, ("a",)), board.pass_tick(), board.undo()]
        self.assertEqual(told, [None] * 7)


class TestUndo(BoardTest):
    def test_nothing_done(self):
        board = Board(DEAL)
        self.refused(board, NothingDone, board.undo)
        board.lay("a")
        board.undo()
        self.refused(board, NothingDone, board.undo)
        with self.assertRaises(NothingDone) as caught:
            board.undo()
        self.assertTrue(str(caught.exception))

    def test_back_to_each_state(self):
        board = Board(DEAL)
        states = [state_of(board)]
        deeds = [lambda: board.lay("a"), lambda: board.lay("b"), lambda: board.lay("c"), board.start,
                 lambda: board.show(CA, ("a",)), board.pass_tick, board.pass_tick, lambda: board.show(BC, ("c", "a"))]
        for deed in deeds:
            deed()
            states.append(state_of(board))
        for state in reversed(states[:-1]):
            board.undo()
            self.assertEqual(state_of(board), state)

    def test_undo_of_the_start_opens_the_laying(self):
        board = started(laying=("a",))
        board.undo()
        self.assertIsNone(board.tick)
        board.lay("c")
        board.start()
        board.show(CA, ("a",))
        self.assertEqual(board.taken, (CA,))

    def test_refused_deeds_are_not_undone(self):
        board = laid()
        self.not_now(board, "lay", lambda: board.lay("a"))
        board.undo()
        self.assertEqual(board.log, [("lay", "a"), ("lay", "b")])


class TestMust(BoardTest):
    def test_a_leader_at_tick_0(self):
        self.assertEqual(laid().must("a"), [])
        board = started()
        self.assertEqual(board.must("a"), [(CA, ("a",))])
        board.pass_tick()
        self.assertEqual(board.must("a"), [])
        self.assertEqual(started(laying=("a", "b")).must("a"), [])

    def test_an_answer(self):
        board = started()
        board.show(CA, ("a",))
        self.assertEqual([board.must(party) for party in ALL], [[], [], []])
        board.pass_tick()
        self.assertEqual(board.must("c"), [])
        board.pass_tick()
        self.assertEqual(board.must(party="c"), [(BC, ("c", "a"))])
        board.show(BC, ("c", "a"))
        self.assertEqual(board.must("c"), [])
        board.undo()
        board.pass_tick()
        self.assertEqual(board.must("c"), [])

    def test_also_where_the_word_was_shown_by_another_trail(self):
        board = started(FORKED, "abcd")
        board.show(BD, ("d",))
        board.show(BC, ("c", "d"))
        board.pass_tick()
        self.assertEqual(board.must("b"), [(AB, ("b", "c", "d"))])
        board.show(AB, ("b", "d"))
        self.assertEqual(board.must("b"), [(AB, ("b", "c", "d"))])
        self.not_now(board, "show", lambda: board.show(AB, ("b", "c", "d")))

    def test_also_where_it_was_shown_too_early(self):
        board = started(OPEN)
        board.show(CA, ("a",))
        board.pass_tick()
        board.show(BC, ("c", "a"))
        board.pass_tick()
        self.assertEqual(board.must("c"), [(BC, ("c", "a"))])

    def test_several_ascend(self):
        deal = deal_of(Web(ALL, all_handings(ALL)), ALL, [9, 9, 9], 1)
        board = started(deal)
        self.assertEqual(board.must("c"), [(("a", "c"), ("c",)), (BC, ("c",))])
        board.show(BC, ("c",))
        self.assertEqual(board.must("c"), [(("a", "c"), ("c",))])
        for handing in [handing for handing in all_handings(ALL) if handing != BC]:
            board.show(handing, (handing[1],))
        board.pass_tick()
        self.assertEqual(board.must("c"), [(("a", "c"), ("c", "a")), (("a", "c"), ("c", "b")), (BC, ("c", "a")), (BC, ("c", "b"))])


class TestFaults(BoardTest):
    def test_laying_is_told_at_once(self):
        board = Board(DEAL)
        board.lay("c")
        self.assertEqual(board.faults(), ("c",))
        board.lay("b")
        self.assertEqual(board.faults(), ("b", "c"))
        board.lay("a")
        self.assertEqual(board.faults(), ("b", "c"))
        board.undo()
        board.undo()
        board.undo()
        board.lay("a")
        self.assertEqual(board.faults(), ())
        self.assertEqual(laid(DEAL.with_leaders(ALL), "cba").faults(), ())

    def test_what_must_not_be_shown_is_told_at_once(self):
        board = started(OPEN)
        board.show(BC, ("c", "a"))
        self.assertEqual(board.faults(), ("c",))
        board.undo()
        self.assertEqual(board.faults(), ())

    def test_what_must_be_shown_is_missed_a_tick_later(self):
        board = started()
        self.assertEqual(board.faults(), ())
        board.pass_tick()
        self.assertEqual(board.faults(), ("a",))
        board.undo()
        board.show(CA, ("a",))
        board.pass_tick()
        board.pass_tick()
        self.assertEqual(board.faults(), ())
        board.pass_tick()
        self.assertEqual(board.faults(), ("c",))

    def test_too_late_is_told_at_once_too(self):
        board = started(OPEN, ticks=1)
        board.show(CA, ("a",))
        self.assertEqual(board.faults(), ("a",))
        board = started(OPEN)
        board.show(CA, ("a",))
        board.pass_tick()
        board.show(BC, ("c", "a"))
        self.assertEqual(board.faults(), ("c",))

    def test_nothing_is_to_be_shown_too_late(self):
        # What c could show is not in time any more, so it has kept the rules.
        board = started(OPEN.with_last(BC, 1, 1))
        board.show(CA, ("a",))
        for _ in range(5):
            board.pass_tick()
        self.assertEqual(board.faults(), ())

    def test_several(self):
        board = started(OPEN, laying="cab", ticks=1)
        board.show(AB, ("b", "c", "a"))
        self.assertEqual(board.faults(), ("a", "b", "c"))
        self.assertIs(type(board.faults()), tuple)


class TestBlocks(BoardTest):
    def test_the_value_of_a_block(self):
        board = Board(DEAL)
        with board as held:
            self.assertIs(held, board)
            held.lay("a")
        self.assertEqual(board.log, [("lay", "a")])

    def test_left_by_an_exception(self):
        board = laid(laying=("a",))
        before = state_of(board)
        with self.assertRaises(Stop):
            with board:
                board.lay("b")
                board.start()
                board.pass_tick()
                raise Stop
        self.assertEqual(state_of(board), before)
        board.lay("b")
        self.assertEqual(board.log, [("lay", "a"), ("lay", "b")])

    def test_left_by_any_exception_which_goes_on_itself(self):
        for error in (Stop("x"), KeyboardInterrupt(), NotNow("x"), GeneratorExit()):
            board = Board(DEAL)
            with self.assertRaises(type(error)) as caught:
                with board:
                    board.lay("a")
                    raise error
            self.assertIs(caught.exception, error)
            self.assertEqual(board.log, [])

    def test_left_by_a_refused_deed(self):
        board = Board(DEAL)
        with self.assertRaises(NotNow):
            with board:
                board.lay("a")
                board.lay("a")
        self.assertEqual(board.log, [])

    def test_a_refused_deed_that_is_caught_within(self):
        board = Board(DEAL)
        with board:
            board.lay("a")
            self.not_now(board, "lay", lambda: board.lay("a"))
        self.assertEqual(board.log, [("lay", "a")])

    def test_undo_takes_back_what_was_done_ahead_of_a_block(self):
        board = laid()
        with board:
            board.undo()
            board.undo()
        self.assertEqual(board.log, [("lay", "a")])
        with self.assertRaises(Stop):
            with board:
                board.undo()
                board.lay("c")
                board.start()
                raise Stop
        self.assertEqual(board.log, [("lay", "a")])
        with self.assertRaises(NothingDone):
            with board:
                board.undo()
                board.undo()
        self.assertEqual(board.log, [("lay", "a")])

    def test_a_block_can_be_undone_behind_it(self):
        board = Board(DEAL)
        with board:
            board.lay("a")
            board.lay("b")
        board.undo()
        self.assertEqual(board.log, [("lay", "a")])

    def test_blocks_in_blocks(self):
        board = Board(DEAL)
        with board:
            board.lay("a")
            with self.assertRaises(Stop):
                with board:
                    board.lay("b")
                    with board:
                        board.undo()
                        board.undo()
                        board.lay("c")
                    self.assertEqual(board.log, [("lay", "c")])
                    raise Stop
            self.assertEqual(board.log, [("lay", "a")])
            board.lay("c")
        self.assertEqual(board.log, [("lay", "a"), ("lay", "c")])

    def test_all_blocks_left_by_one_exception(self):
        board = laid(laying=("a",))
        with self.assertRaises(Stop):
            with board:
                board.lay("b")
                with board:
                    board.lay("c")
                    with board:
                        board.start()
                        raise Stop
        self.assertEqual(board.log, [("lay", "a")])
        with self.assertRaises(Stop):
            with board:
                board.lay("b")
                with board:
                    board.lay("c")
                raise Stop
        self.assertEqual(board.log, [("lay", "a")])

    def test_tried(self):
        board = laid()

        def work(given):
            self.assertIs(given, board)
            given.start()
            return [given.tick]

        self.assertEqual(board.tried(work=work), [0])
        self.assertEqual(board.tick, 0)
        self.assertIsNone(board.tried(lambda given: given.pass_tick()))
        self.assertEqual(board.tick, 1)

    def test_tried_with_an_exception(self):
        board = started()
        before = state_of(board)
        error = Stop("x")

        def work(given):
            given.pass_tick()
            given.show(AB, ("b", "c", "a"))
            raise error

        with self.assertRaises(Stop) as caught:
            board.tried(work)
        self.assertIs(caught.exception, error)
        self.assertEqual(state_of(board), before)
        with self.assertRaises(NotNow):
            board.tried(lambda given: (given.pass_tick(), given.lay("a")))
        self.assertEqual(state_of(board), before)

    def test_tried_in_tried(self):
        board = Board(DEAL)

        def inner(given):
            given.undo()
            given.lay("b")
            raise Stop

        def outer(given):
            given.lay("a")
            with self.assertRaises(Stop):
                given.tried(inner)
            self.assertEqual(given.log, [("lay", "a")])
            return given.tried(lambda again: again.lay("c") or "done")

        self.assertEqual(board.tried(outer), "done")
        self.assertEqual(board.log, [("lay", "a"), ("lay", "c")])

    def test_two_boards_in_blocks(self):
        board, other = Board(DEAL), Board(OPEN)
        with self.assertRaises(Stop):
            with board, other:
                board.lay("a")
                other.lay("b")
                raise Stop
        self.assertEqual((board.log, other.log), ([], []))


class TestCopyAndEqual(BoardTest):
    def test_copy_is_independent(self):
        board = started()
        other = board.copy()
        self.assertIsNot(other, board)
        self.assertEqual(state_of(other), state_of(board))
        other.pass_tick()
        board.show(CA, ("a",))
        self.assertEqual((board.tick, other.tick), (0, 1))
        self.assertEqual((board.taken, other.taken), ((CA,), ()))
        board.undo()
        board.undo()
        self.assertEqual(other.tick, 1)

    def test_copy_is_in_no_block(self):
        board = laid(laying=("a",))
        with self.assertRaises(Stop):
            with board:
                board.lay("b")
                other = board.copy()
                other.lay("c")
                raise Stop
        self.assertEqual(board.log, [("lay", "a")])
        self.assertEqual(other.log, [("lay", "a"), ("lay", "b"), ("lay", "c")])
        with self.assertRaises(Stop):
            with other:
                other.undo()
                raise Stop
        self.assertEqual(len(other.log), 3)

    def test_equal(self):
        self.assertEqual(Board(DEAL), Board(Deal(RING, ("a",), DEAL.last, 2)))
        self.assertEqual(kept(), kept())
        self.assertEqual(kept().copy(), kept())
        self.assertNotEqual(Board(DEAL), Board(OPEN))
        self.assertNotEqual(laid(), started())
        self.assertNotEqual(laid(laying="ab"), laid(laying="ba"))
        board = started()
        board.pass_tick()
        board.undo()
        self.assertEqual(board, started())
        # By their logs, and not by their courses.
        one, other = started(OPEN), started(OPEN)
        one.show(CA, ("a",))
        one.show(AB, ("b", "c", "a"))
        other.show(AB, ("b", "c", "a"))
        other.show(CA, ("a",))
        self.assertEqual(one.course, other.course)
        self.assertNotEqual(one, other)
        with board:
            self.assertEqual(board, started())

    def test_equal_to_no_value_of_another_kind(self):
        board = kept()
        for value in values_not_equal_to(board) + [DEAL, board.log, board.course]:
            self.assertFalse(board == value)
            self.assertTrue(board != value)

    def test_is_not_iterated_over(self):
        for use in (iter, list, lambda board: ("lay", "a") in board, lambda board: [*board]):
            with self.assertRaises(TypeError):
                use(kept())


class TestNewEachTime(BoardTest):
    def test_what_is_told_may_be_changed(self):
        board = kept()
        board.pass_tick()
        before = state_of(board)
        board.log.clear()
        board.course[0].clear()
        board.course[1].append(None)
        other = started()
        told = other.must("a")
        told.clear()
        self.assertEqual(other.must("a"), [(CA, ("a",))])
        self.assertEqual(state_of(board), before)
        self.assertEqual([type(part) for part in board.course], [list, list])
        self.assertEqual((type(board.course), type(board.log), type(board.taken)), (tuple, list, tuple))
        self.assertEqual({type(deed) for deed in board.log}, {tuple})

    def test_what_was_told_does_not_change(self):
        board = started()
        log, course = board.log, board.course
        board.show(CA, ("a",))
        self.assertEqual((log[-1], course), (("start",), (ALL, [])))

    def test_the_deal_is_not_changed_by_its_last(self):
        last = {handing: list(row) for handing, row in OPEN.last.items()}
        board = started(Deal(RING, ["a"], last, 2))
        last[CA][0] = -1
        board.deal.last.clear()
        board.show(CA, ("a",))
        self.assertEqual(board.taken, (CA,))

    def test_properties_are_only_read(self):
        for name in ("deal", "tick", "course", "log", "taken"):
            with self.assertRaises(AttributeError):
                setattr(Board(DEAL), name, None)


# Rows of deeds and undos are drawn, and what a board tells is compared with what its course tells.


def plain_state(deeds):
    """The laying, the tick and the shows behind these deeds."""
    laying, tick, shows = [], None, []
    for deed in deeds:
        if deed[0] == "lay":
            laying.append(deed[1])
        elif deed[0] == "show":
            shows.append((tick,) + deed[1:])
        else:
            tick = 0 if deed[0] == "start" else tick + 1
    return laying, tick, sorted(shows)


def plain_can(deal, deeds, deed):
    """Whether the deed can be done behind these deeds."""
    laying, tick, shows = plain_state(deeds)
    if deed[0] == "lay":
        return tick is None and deed[1] not in laying
    if deed[0] == "start":
        return tick is None
    if deed[0] == "tick":
        return tick is not None
    return tick is not None and helper.plain_can_stand(deal, laying, shows + [(tick,) + deed[1:]])


def do(board, deed):
    {"lay": board.lay, "start": board.start, "show": board.show, "tick": board.pass_tick, "undo": board.undo}[deed[0]](*deed[1:])


def drawn_deed(chance, deal, board):
    """Some deed, most likely one that can be done now."""
    now = board.tick
    if chance.random() < 0.12:
        return ("undo",)
    if now is None and chance.random() < 0.8:
        return ("lay", chance.choice(deal.web.parties))
    if now is None or chance.random() < 0.05:
        return ("start",)
    due = [("show",) + pair for party in deal.web.parties for pair in board.must(party)]
    if due and chance.random() < 0.7:
        return chance.choice(due)
    if chance.random() < 0.6:
        return ("tick",)
    handing = chance.choice(deal.web.handings)
    return ("show", handing, chance.choice(helper.plain_ways(deal.web)[handing[1], chance.choice(deal.leaders)] or [("x",)]))


class TestDrawnDeeds(BoardTest):
    DEALS = helper.some_deals([2, 3, 3, 4], 6, 60, 10 ** 9, 100) + [DEAL, OPEN, FORKED, deal_of(Web(ALL, all_handings(ALL)), ALL, [1, 2, 3], 1)]

    def check_board(self, board, deal, deeds):
        laying, tick, shows = plain_state(deeds)
        self.assertEqual(board.deal, deal)
        self.assertEqual(board.log, deeds)
        self.assertEqual(board.tick, tick)
        self.assertEqual(board.course, (laying, shows))
        self.assertTrue(is_course(deal, [], board.course))
        self.assertEqual(board.taken, helper.plain_taken(deal, laying, shows))
        self.assertEqual(board.taken, taken(deal, board.course))
        faults = []
        for party in deal.web.parties:
            due = helper.plain_must(deal, laying, shows, party)
            self.assertEqual(due, must_show(deal, board.course, party))
            now = [show[1:] for show in due if show[0] == tick and show not in shows]
            self.assertEqual(board.must(party), now if tick is not None else [])
            own = [show for show in shows if show[1][1] == party]
            # So far it has kept the rules if it has when it shows what is due from now on.
            so_far = [show for show in due if show in own or (tick is not None and show[0] < tick)]
            if own != so_far or not helper.plain_is_laying(deal.web, deal.leaders, [party], laying):
                faults.append(party)
        self.assertEqual(board.faults(), tuple(faults))

    def test_what_a_board_tells_is_what_its_course_tells(self):
        chance = random.Random(101)
        counts = {"done": 0, "refused": 0, "faulty": 0, "good": 0}
        for deal, _ in itertools.product(self.DEALS, range(3)):
            board, deeds = Board(deal), []
            for _ in range(40):
                deed = drawn_deed(chance, deal, board)
                can = bool(deeds) if deed == ("undo",) else plain_can(deal, deeds, deed)
                counts["done" if can else "refused"] += 1
                if can:
                    do(board, deed)
                    deeds = deeds[:-1] if deed == ("undo",) else deeds + [deed]
                else:
                    with self.assertRaises(NothingDone if deed == ("undo",) else NotNow):
                        do(board, deed)
                self.check_board(board, deal, deeds)
                counts["faulty" if board.faults() else "good"] += 1
        self.assertGreater(min(counts.values()), 200)

    def test_behind_the_last_tick_faults_are_those_of_the_course(self):
        chance = random.Random(102)
        for deal in self.DEALS:
            board = Board(deal)
            while len(board.log) < 30:
                try:
                    do(board, drawn_deed(chance, deal, board))
                except LockError:
                    pass
            if board.tick is None:
                board.start()
            # Then nothing can be shown any more, and all that was to be shown is missed.
            while board.tick < 12:
                board.pass_tick()
            keepers = keepers_in(deal, board.course)
            self.assertEqual(board.faults(), tuple(party for party in deal.web.parties if party not in keepers))
            for party in deal.web.parties:
                self.assertEqual(first_fault(deal, board.course, party) is not None, party in board.faults())

    def test_blocks(self):
        # Deeds and undos within blocks in blocks, some of which are left by an exception.
        chance = random.Random(103)

        def go_on(board, deal, deeds, depth):
            """Deeds in a block; the deeds that stand behind it, or the exception Stop."""
            for _ in range(chance.randint(1, 6)):
                if depth < 3 and chance.random() < 0.3:
                    try:
                        if chance.random() < 0.5:
                            with board:
                                deeds = go_on(board, deal, deeds, depth + 1)
                        else:
                            deeds = board.tried(lambda given, deeds=deeds: go_on(given, deal, deeds, depth + 1))
                    except Stop:
                        pass
                else:
                    deed = drawn_deed(chance, deal, board)
                    try:
                        do(board, deed)
                        deeds = deeds[:-1] if deed == ("undo",) else deeds + [deed]
                    except LockError:
                        pass
                self.assertEqual(board.log, deeds)
            if chance.random() < 0.4:
                raise Stop
            return deeds

        for deal in self.DEALS:
            board, deeds = Board(deal), []
            for _ in range(6):
                try:
                    deeds = board.tried(lambda given, deeds=deeds: go_on(given, deal, deeds, 0))
                except Stop:
                    pass
                self.check_board(board, deal, deeds)
                self.assertEqual(board, board.copy())

    def test_kept_courses_on_a_board(self):
        for deal in self.DEALS:
            laying, shows = kept_course(deal)
            board = started(deal, laying)
            for tick in range(max([show[0] for show in shows], default=0) + 2):
                for party in deal.web.parties:
                    for handing, trail in board.must(party):
                        board.show(handing, trail)
                self.assertEqual(board.faults(), ())
                board.pass_tick()
            self.assertEqual(board.course, (laying, shows))
            self.assertEqual(board.faults(), ())
            self.assertEqual(keepers_in(deal, board.course), deal.web.parties)


if __name__ == "__main__":
    unittest.main()

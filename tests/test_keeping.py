"""Point 60: what comes about if all keep the rules, also if one of them stops, by examples and wrong inputs."""

import unittest

from handlocks.courses import is_course, losers
from handlocks.deals import Deal
from handlocks.errors import BadDeal, BadNumber, NoParty
from handlocks.keeping import goes_through, harmed, kept_course, last_tick, stopped_course, taken_at
from handlocks.losing import in_danger
from handlocks.webs import Web
from tests.helper import LINE, RING, all_handings, deal_of, strange_values

AB, BC, CA, BA, CB = ("a", "b"), ("b", "c"), ("c", "a"), ("b", "a"), ("c", "b")
ALL = ["a", "b", "c"]
JUST = Deal(RING, ["a"], {AB: [-1, -1, 4], BC: [-1, 2, -1], CA: [0, -1, -1]}, 2)
KEPT = [(0, CA, ("a",)), (2, BC, ("c", "a")), (4, AB, ("b", "c", "a"))]
OF_DEAL = (kept_course, goes_through, taken_at, last_tick)


class TestKeptCourse(unittest.TestCase):
    def test_in_a_ring(self):
        self.assertEqual(kept_course(JUST), (ALL, KEPT))
        self.assertEqual(kept_course(JUST.with_wait(1))[1], [(0, CA, ("a",)), (1, BC, ("c", "a")), (2, AB, ("b", "c", "a"))])
        self.assertEqual(kept_course(JUST.with_wait(3))[1], KEPT[:1])
        self.assertEqual(kept_course(JUST.with_last(AB, 2, 3))[1], KEPT[:2])
        self.assertEqual(kept_course(deal_of(RING, ["a"], [-1, 9, 9], 2)), (ALL, []))
        self.assertEqual(kept_course(deal_of(RING, ["a"], [0, 9, 9], 5))[1], [(0, CA, ("a",)), (5, BC, ("c", "a"))])
        self.assertEqual(kept_course(deal_of(RING, ["a"], [99, 99, 99], 5))[1],
                         [(0, CA, ("a",)), (5, BC, ("c", "a")), (10, AB, ("b", "c", "a"))])

    def test_the_laying_has_the_least_party_that_can_be_next(self):
        self.assertEqual(kept_course(JUST.with_leaders(["b"]))[0], ["b", "c", "a"])
        self.assertEqual(kept_course(JUST.with_leaders(["c", "b"]))[0], ["b", "c", "a"])
        self.assertEqual(kept_course(JUST.with_leaders(["c", "a"]))[0], ["a", "b", "c"])
        self.assertEqual(kept_course(deal_of(LINE.turned(), ["b"], [9, 9, 9], 1))[0], ["b", "a", "c"])

    def test_not_all_can_lay(self):
        web = Web(list("abcd"), [AB, BA, ("c", "d"), ("d", "c"), ("b", "d")])
        deal = deal_of(web, ["a"], [9, 9, 9, 9], 1)
        self.assertEqual(kept_course(deal), (["a", "b"], [(0, BA, ("a",)), (1, AB, ("b", "a"))]))
        self.assertFalse(goes_through(deal))
        self.assertEqual(taken_at(deal), {AB: 1, BA: 0, ("b", "d"): None, ("c", "d"): None, ("d", "c"): None})
        # a would lead, but its in from c is never laid.
        deal = deal_of(web.with_handing(CA), ["a"], [9, 9, 9, 9], 1)
        self.assertEqual(kept_course(deal), (["a", "b"], []))

    def test_no_trail_at_all(self):
        deal = deal_of(LINE, ["a"], [9, 9, 9], 1)
        self.assertEqual(kept_course(deal), (ALL, []))
        self.assertEqual((goes_through(deal), taken_at(deal), last_tick(deal)), (False, {AB: None, BC: None}, None))

    def test_the_least_trail_of_those_that_come_at_once(self):
        web = Web(list("abcd"), [AB, BC, ("b", "d"), CA, ("d", "a")])
        deal = deal_of(web, ["a"], [9, 9, 9, 9], 1)
        self.assertEqual([show for show in kept_course(deal)[1] if show[1] == AB], [(2, AB, ("b", "c", "a"))])
        late = deal.with_last(BC, 1, 0)
        self.assertEqual([show for show in kept_course(late)[1] if show[1] == AB], [(2, AB, ("b", "d", "a"))])

    def test_the_trail_that_comes_first(self):
        web = Web(list("abcd"), [AB, BC, ("b", "d"), ("c", "d"), ("d", "a")])
        deal = deal_of(web, ["a"], [9, 9, 9, 9], 1)
        self.assertEqual([show for show in kept_course(deal)[1] if show[1] == AB], [(2, AB, ("b", "d", "a"))])
        late = deal.with_last(AB, 2, 1)
        self.assertEqual([show for show in kept_course(late)[1] if show[1] == AB], [(3, AB, ("b", "c", "d", "a"))])

    def test_three_leaders(self):
        deal = deal_of(Web(ALL, all_handings("abc")), ALL, [0, 1, -1], 1)
        shows = [(0, handing, (handing[1],)) for handing in deal.web.handings]
        shows += [(1, handing, (handing[1], other)) for handing in deal.web.handings for other in ALL if other != handing[1]]
        self.assertEqual(kept_course(deal), (ALL, sorted(shows)))
        self.assertEqual(taken_at(deal), {handing: 1 for handing in deal.web.handings})
        self.assertEqual(last_tick(deal), 1)
        self.assertEqual(kept_course(deal_of(deal.web, ALL, [0, 0, 0], 1))[1], shows[:6])
        self.assertEqual(last_tick(deal_of(deal.web, ALL, [0, 0, 0], 1)), None)

    def test_is_a_course_of_all(self):
        for deal in (JUST, JUST.with_wait(3), deal_of(Web(ALL, all_handings("abc")), ["b", "c"], [9, 9, 9], 2)):
            self.assertTrue(is_course(deal, ALL, kept_course(deal)))

    def test_kinds_and_new_each_time(self):
        told = kept_course(JUST)
        self.assertIs(type(told), tuple)
        self.assertEqual([type(part) for part in told], [list, list])
        told[0].clear()
        told[1].append(None)
        self.assertEqual(kept_course(JUST), (ALL, KEPT))


class TestGoesThrough(unittest.TestCase):
    def test_just_in_time_and_one_tick_too_late(self):
        self.assertIs(goes_through(JUST), True)
        self.assertIs(goes_through(JUST.with_last(AB, 2, 3)), False)
        self.assertIs(goes_through(JUST.with_last(BC, 1, 1)), False)
        self.assertIs(goes_through(JUST.with_last(CA, 0, -1)), False)
        self.assertIs(goes_through(JUST.with_wait(3)), False)
        self.assertIs(goes_through(JUST.with_wait(1)), True)

    def test_taken_at(self):
        self.assertEqual(taken_at(JUST), {AB: 4, BC: 2, CA: 0})
        self.assertEqual(list(taken_at(JUST)), [AB, BC, CA])
        self.assertEqual(taken_at(JUST.with_last(AB, 2, 3)), {AB: None, BC: 2, CA: 0})
        self.assertEqual(taken_at(JUST.with_last(CA, 0, -1)), {AB: None, BC: None, CA: None})
        self.assertEqual((last_tick(JUST), last_tick(JUST.with_wait(1))), (4, 2))
        self.assertIsNone(last_tick(JUST.with_last(AB, 2, 3)))

    def test_the_last_word_counts(self):
        deal = deal_of(RING, ["a", "b"], [9, 9, 9], 3)
        # The word of a comes to (b, c) at 3 and to (a, b) at 6; the word of b to (c, a) at 3 and to (b, c) at 6.
        self.assertEqual(taken_at(deal), {AB: 6, BC: 6, CA: 3})
        self.assertEqual(last_tick(deal), 6)
        self.assertEqual(taken_at(deal.with_last(AB, 2, 5)), {AB: None, BC: 6, CA: 3})

    def test_new_each_time(self):
        told = taken_at(JUST)
        told.clear()
        self.assertEqual(taken_at(JUST), {AB: 4, BC: 2, CA: 0})


class TestStoppedCourse(unittest.TestCase):
    def test_ticks(self):
        self.assertEqual(stopped_course(JUST, "c", 0), (ALL, KEPT[:1]))
        self.assertEqual(stopped_course(JUST, "c", 2), (ALL, KEPT[:1]))
        self.assertEqual(stopped_course(JUST, "c", 3), (ALL, KEPT))
        self.assertEqual(stopped_course(JUST, "c", 99), (ALL, KEPT))
        self.assertEqual(stopped_course(JUST, "a", 0), (ALL, []))
        self.assertEqual(stopped_course(JUST, "a", 1), (ALL, KEPT))
        self.assertEqual(stopped_course(JUST, "b", 4), (ALL, KEPT[:2]))
        self.assertEqual(stopped_course(JUST, "b", 5), (ALL, KEPT))

    def test_it_lays_as_a_keeper_does(self):
        self.assertEqual(stopped_course(JUST.with_leaders(["b"]), "c", 0)[0], ["b", "c", "a"])
        deal = deal_of(Web(list("abcd"), [AB, BA, ("c", "d"), ("d", "c")]), ["a"], [9] * 4, 1)
        self.assertEqual(stopped_course(deal, "d", 0), (["a", "b"], [(0, BA, ("a",)), (1, AB, ("b", "a"))]))

    def test_at_the_last_tick_of_all(self):
        web = Web(list("abcdef"), [("a", "b"), ("b", "c"), ("c", "d"), ("d", "e"), ("e", "f"), ("f", "a")])
        deal = deal_of(web, ["a"], [99] * 6, 5)
        self.assertEqual(last_tick(deal), 25)
        self.assertEqual(len(stopped_course(deal, "b", 25)[1]), 5)
        self.assertEqual(len(stopped_course(deal, "b", 26)[1]), 6)

    def test_others_are_keepers(self):
        for party in ALL:
            others = [other for other in ALL if other != party]
            for tick in range(6):
                self.assertTrue(is_course(JUST, others, stopped_course(JUST, party, tick)))

    def test_new_each_time_and_by_name(self):
        told = stopped_course(tick=3, party="c", deal=JUST)
        self.assertEqual([type(part) for part in told], [list, list])
        told[0].clear()
        told[1].clear()
        self.assertEqual(stopped_course(JUST, "c", 3), (ALL, KEPT))

    def test_errors_in_the_order_of_the_parameters(self):
        for value in strange_values() + ["d", ("a",), JUST]:
            with self.assertRaises(NoParty) as caught:
                stopped_course(JUST, value, None)
            self.assertEqual(caught.exception.party, value)
        for value in [-1, 100, 10 ** 999, -10 ** 999, None, True, False, "0", "", [0], (0,), {0: 0}, RING]:
            with self.assertRaises(BadNumber) as caught:
                stopped_course(JUST, "a", value)
            self.assertEqual(caught.exception.number, value)
            self.assertIs(type(caught.exception.number), type(value))


class TestHarmed(unittest.TestCase):
    def test_a_sound_deal_harms_nobody(self):
        for party in ALL:
            self.assertEqual(harmed(JUST, party), ())

    def test_who_stops_may_lose_itself(self):
        # c does not show b the word, so a has taken what c handed it, and c gets nothing.
        self.assertEqual(losers(JUST, stopped_course(JUST, "c", 0)), ("c",))
        self.assertEqual(harmed(JUST, "c"), ())

    def test_who_loses_when_all_keep_the_rules(self):
        deal = JUST.with_last(AB, 2, 3)
        self.assertEqual(losers(deal, kept_course(deal)), ("b",))
        self.assertEqual([harmed(deal, party) for party in ALL], [("b",), (), ("b",)])

    def test_harmed_only_by_a_stop(self):
        # b gets the word of a from c in time; if c does not show it, from d, and too late for (a, b).
        web = Web(list("abcde"), [AB, BC, ("b", "d"), CA, ("d", "e"), ("e", "a")])
        deal = deal_of(web, ["a"], [9, 9, 9, 9, 9], 1).with_last(AB, 3, 2)
        self.assertTrue(goes_through(deal))
        self.assertEqual(losers(deal, stopped_course(deal, "c", 1)), ("b", "c"))
        self.assertEqual([harmed(deal, party) for party in web.parties], [(), (), ("b",), (), ()])
        self.assertEqual(harmed(deal.with_last(AB, 3, 3), "c"), ())

    def test_harmed_only_by_a_stop_in_between(self):
        # c opens (b, c) with the words of both leaders, and b can use the word of c only if a has shown it, too.
        web = Web(ALL, [AB, ("a", "c"), BA, BC, CA])
        deal = Deal(web, ["a", "c"], {AB: [0, 0, 3], ("a", "c"): [1, 1, 1], BA: [1, 2, 2], BC: [0, 1, 1], CA: [0, 1, 2]}, 1)
        self.assertNotIn("b", losers(deal, stopped_course(deal, "a", 0)))
        self.assertIn("b", losers(deal, stopped_course(deal, "a", 1)))
        self.assertNotIn("b", losers(deal, stopped_course(deal, "a", 2)))
        self.assertNotIn("b", losers(deal, kept_course(deal)))
        self.assertIn("b", harmed(deal, "a"))

    def test_kinds_and_by_name(self):
        deal = JUST.with_last(AB, 2, 3)
        self.assertIs(type(harmed(deal, "a")), tuple)
        self.assertEqual(harmed(party="a", deal=deal), ("b",))
        self.assertEqual(in_danger(deal), ("b",))


class TestArguments(unittest.TestCase):
    def test_by_name_and_equal_arguments(self):
        same = Deal(Web(("c", "b", "a"), (CA, BC, AB)), ("a",), {h: list(JUST.last[h]) for h in JUST.last}, 2)
        for use in OF_DEAL:
            self.assertEqual(use(deal=JUST), use(same))
        for use in OF_DEAL + (lambda deal: stopped_course(deal, "b", 3), lambda deal: harmed(deal, "b")):
            self.assertEqual(use(JUST), use(same))
        self.assertEqual(JUST, same)

    def test_what_is_no_deal(self):
        for value in strange_values() + [RING, JUST.last]:
            for use in OF_DEAL + (lambda deal: stopped_course(deal, None, None), lambda deal: harmed(deal, None)):
                with self.assertRaises(BadDeal) as caught:
                    use(value)
                self.assertEqual(caught.exception.part, "deal")

    def test_what_is_no_party(self):
        for value in strange_values() + ["d", ("a",), JUST]:
            with self.assertRaises(NoParty) as caught:
                harmed(JUST, value)
            self.assertEqual(caught.exception.party, value)


if __name__ == "__main__":
    unittest.main()

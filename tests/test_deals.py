"""Points 3, 4, 30 and 31: deals, trails, and how long a lock is open, by examples and wrong inputs."""

import copy
import unittest

from handlocks.deals import Deal, open_until, trails
from handlocks.errors import BadDeal, BadLeaders, BadNumber, NoHanding, NoParty
from handlocks.webs import Web
from tests.helper import (LINE, RING, Equal, all_handings, deal_of, in_order, plain_trails, some_deals, strange_values,
                          values_not_equal_to)

AB, BC, CA = ("a", "b"), ("b", "c"), ("c", "a")
ROWS = {CA: [0, 7, 8], AB: [1, 2, 4], BC: [-1, 2, 99]}
FOUR = Web(list("abcd"), all_handings("abcd"))
NO_LEADERS = strange_values() + ["a", "abc", {"a": 1}, ["d"], ["a", "d"], ["a", "a"], ("a", "b", "a"), ["a", True], [["a"]],
                                 [("a",)]]
NO_TICKS = [-2, 100, 10 ** 999, -10 ** 999, None, True, False, "0", "", [], [0], (0,), {}, {0: 0}, RING]


def ring_deal():
    return Deal(RING, ["a"], ROWS, 2)


def all_but_numbers():
    return [value for value in strange_values() if isinstance(value, bool) or not isinstance(value, int)]


class DealTest(unittest.TestCase):
    def part_of(self, *arguments):
        with self.assertRaises(BadDeal) as caught:
            Deal(*arguments)
        return caught.exception.part

    def number_of(self, use):
        with self.assertRaises(BadNumber) as caught:
            use()
        return caught.exception.number


class TestMakingDeals(DealTest):
    def test_properties(self):
        deal = Deal(RING, ["c", "a", "b"], ROWS, 2)
        self.assertEqual(deal.web, RING)
        self.assertIs(type(deal.web), Web)
        self.assertEqual(deal.leaders, ("a", "b", "c"))
        self.assertIs(type(deal.leaders), tuple)
        self.assertEqual(deal.last, {AB: (1, 2, 4), BC: (-1, 2, 99), CA: (0, 7, 8)})
        self.assertEqual(list(deal.last), [AB, BC, CA])
        self.assertIs(type(deal.last), dict)
        self.assertTrue(all(type(row) is tuple for row in deal.last.values()))
        self.assertEqual(deal.wait, 2)

    def test_properties_are_not_assigned(self):
        deal = ring_deal()
        for name in ("web", "leaders", "last", "wait"):
            with self.assertRaises(AttributeError):
                setattr(deal, name, getattr(deal, name))
        self.assertEqual(deal, ring_deal())

    def test_last_is_new_each_time(self):
        deal = ring_deal()
        self.assertIsNot(deal.last, deal.last)
        told = deal.last
        told[AB] = (9, 9, 9)
        del told[BC]
        told.update({("x", "y"): ()})
        self.assertEqual(deal.last, {AB: (1, 2, 4), BC: (-1, 2, 99), CA: (0, 7, 8)})
        self.assertEqual(deal, ring_deal())

    def test_arguments_are_copied_and_not_changed(self):
        leaders, last = ["c", "a"], copy.deepcopy(ROWS)
        deal = Deal(RING, leaders, last, 2)
        self.assertEqual((leaders, last, list(last)), (["c", "a"], ROWS, [CA, AB, BC]))
        leaders.append("b")
        last[AB][0] = 50
        last[BC].append(1)
        del last[CA]
        self.assertEqual(deal, Deal(RING, ["a", "c"], ROWS, 2))
        self.assertEqual(deal.last, {AB: (1, 2, 4), BC: (-1, 2, 99), CA: (0, 7, 8)})

    def test_by_name_and_tuples_for_lists(self):
        self.assertEqual(Deal(wait=2, last=ROWS, leaders=["a"], web=RING), ring_deal())
        self.assertEqual(Deal(RING, ("a",), {handing: tuple(ROWS[handing]) for handing in ROWS}, 2), ring_deal())

    def test_the_order_of_the_keys_means_nothing(self):
        turned = {handing: ROWS[handing] for handing in reversed(list(ROWS))}
        self.assertEqual(Deal(RING, ["a"], turned, 2), ring_deal())
        self.assertEqual(list(Deal(RING, ["a"], turned, 2).last), [AB, BC, CA])

    def test_edges(self):
        self.assertEqual(Deal(FOUR, ["d"], {h: [0] * 4 for h in FOUR.handings}, 1).leaders, ("d",))
        self.assertEqual(Deal(FOUR, list("dcb"), {h: [0] * 4 for h in FOUR.handings}, 1).leaders, ("b", "c", "d"))
        self.assertEqual(self.part_of(FOUR, list("dcba"), {h: [0] * 4 for h in FOUR.handings}, 1), "leaders")
        self.assertEqual(self.part_of(FOUR, [], {h: [0] * 4 for h in FOUR.handings}, 1), "leaders")
        for tick in (-1, 0, 99):
            self.assertEqual(deal_of(RING, ["a"], [tick] * 3, 1).last[AB], (tick,) * 3)
        for wait in (1, 2, 3, 4, 5):
            self.assertEqual(Deal(RING, ["a"], ROWS, wait).wait, wait)

    def test_what_is_no_web(self):
        for value in strange_values() + [RING.handings, ring_deal()]:
            if not isinstance(value, Web):
                self.assertEqual(self.part_of(value, ["a"], ROWS, 2), "web", value)
                self.assertEqual(self.part_of(value, None, None, None), "web", value)

    def test_what_are_no_leaders(self):
        for value in NO_LEADERS:
            self.assertEqual(self.part_of(RING, value, ROWS, 2), "leaders", value)
            self.assertEqual(self.part_of(RING, value, None, None), "leaders", value)

    def test_handings_of_last(self):
        for handing in ROWS:
            fewer = {other: ROWS[other] for other in ROWS if other != handing}
            self.assertEqual(self.part_of(RING, ["a"], fewer, 2), "last")
            for instead in (handing[::-1], "ab", ("a",), handing + ("c",), None, True, 0, (), ("a", "x")):
                self.assertEqual(self.part_of(RING, ["a"], {**fewer, instead: [0, 0, 0]}, 2), "last")
                self.assertEqual(self.part_of(RING, ["a"], {**ROWS, instead: [0, 0, 0]}, 2), "last")
        self.assertEqual(self.part_of(RING, ["a"], {}, 2), "last")

    def test_rows_of_last(self):
        wrong = [[], [0], [0, 0], [0, 0, 0, 0], (0, 0), (0, 0, 0, 0), None, 0, 3, True, "000", {0: 0, 1: 0, 2: 0}, [[0, 0, 0]],
                 ([0], [0], [0])]
        for value in wrong + strange_values():
            for handing in ROWS:
                self.assertEqual(self.part_of(RING, ["a"], {**ROWS, handing: value}, 2), "last", value)

    def test_numbers_of_last(self):
        for value in NO_TICKS:
            for at in range(3):
                row = [0, 0, 0]
                row[at] = value
                self.assertEqual(self.part_of(RING, ["a"], {**ROWS, BC: row}, 2), "last", value)
                self.assertEqual(self.part_of(RING, ["a"], {**ROWS, BC: tuple(row)}, 2), "last", value)

    def test_last_that_is_no_dict(self):
        for value in strange_values() + [list(ROWS.items()), tuple(ROWS.items()), [ROWS], RING.handings]:
            self.assertEqual(self.part_of(RING, ["a"], value, 2), "last", value)
            self.assertEqual(self.part_of(RING, ["a"], value, None), "last", value)

    def test_wait(self):
        for value in [0, 6, -1, 100, None, True, False, "1", [1], (1,), {1: 1}, 10 ** 999, RING] + all_but_numbers():
            self.assertEqual(self.part_of(RING, ["a"], ROWS, value), "wait", value)


class TestEquality(DealTest):
    def test_equal_by_the_four_properties(self):
        deal = ring_deal()
        self.assertTrue(deal == Deal(Web(["c", "b", "a"], [CA, BC, AB]), ("a",), {h: tuple(ROWS[h]) for h in ROWS}, 2))
        self.assertFalse(deal != ring_deal())
        others = [Deal(RING, ["b"], ROWS, 2), Deal(RING, ["a", "b"], ROWS, 2), Deal(RING, ["a"], ROWS, 3),
                  Deal(RING, ["a"], {**ROWS, AB: [1, 2, 5]}, 2),
                  Deal(Web(list("abc"), [AB, BC, ("c", "b")]), ["a"], {AB: [1, 2, 4], BC: [-1, 2, 99], ("c", "b"): [0, 7, 8]}, 2),
                  deal_of(LINE, ["a"], [0, 0, 0], 2)]
        for other in others:
            self.assertTrue(deal != other)
            self.assertFalse(deal == other)
        one, other = Web(list("abc"), [AB]), Web(list("abd"), [AB])
        self.assertTrue(deal_of(one, ["a"], [0] * 3, 1) != deal_of(other, ["a"], [0] * 3, 1))
        wide, narrow = Web(list("abcd"), [AB]), Web(list("abc"), [AB])
        self.assertTrue(deal_of(wide, ["a"], [0] * 4, 1) != deal_of(narrow, ["a"], [0] * 3, 1))

    def test_leaders_in_another_order(self):
        self.assertTrue(Deal(RING, ["c", "a"], ROWS, 2) == Deal(RING, ("a", "c"), ROWS, 2))

    def test_equal_to_no_value_of_another_kind(self):
        deal = ring_deal()
        for value in values_not_equal_to(deal) + [deal.web, deal.last, (deal.web, deal.leaders, deal.last, deal.wait)]:
            self.assertFalse(deal == value, value)
            self.assertTrue(deal != value, value)
            self.assertFalse(value == deal, value)
        self.assertFalse(deal == Equal())

    def test_not_iterated_over(self):
        for use in (iter, list, tuple, sorted, len, lambda deal: "a" in deal, lambda deal: deal[0], lambda deal: [*deal]):
            with self.assertRaises(TypeError):
                use(ring_deal())


class TestDealMethods(DealTest):
    def test_with_last(self):
        deal = ring_deal()
        self.assertEqual(deal.with_last(BC, 0, 3).last, {AB: (1, 2, 4), BC: (3, 2, 99), CA: (0, 7, 8)})
        self.assertEqual(deal.with_last(BC, 2, -1).last, {AB: (1, 2, 4), BC: (-1, 2, -1), CA: (0, 7, 8)})
        self.assertEqual(deal.with_last(CA, 1, 99).last, {AB: (1, 2, 4), BC: (-1, 2, 99), CA: (0, 99, 8)})
        self.assertEqual(deal.with_last(AB, 0, 1), deal)
        self.assertEqual(deal.with_last(tick=0, length=1, handing=AB).last[AB], (1, 0, 4))
        self.assertEqual(deal, ring_deal())
        more = deal.with_last(AB, 0, 0)
        self.assertEqual((more.web, more.leaders, more.wait), (deal.web, deal.leaders, deal.wait))

    def test_with_last_errors_in_their_order(self):
        deal = ring_deal()
        for value in strange_values() + [("b", "a"), ["a", "b"], "ab", ("a",), ("a", "b", "c"), (AB,), 0]:
            with self.assertRaises(NoHanding) as caught:
                deal.with_last(value, None, None)
            self.assertEqual(caught.exception.handing, value)
            self.assertIs(type(caught.exception.handing), type(value))
        for value in all_but_numbers() + [-1, 3, 4, 10 ** 999, "0", [0], True]:
            found = self.number_of(lambda: deal.with_last(AB, value, None))
            self.assertEqual((found, type(found)), (value, type(value)))
        for value in NO_TICKS + all_but_numbers():
            found = self.number_of(lambda: deal.with_last(AB, 2, value))
            self.assertEqual((found, type(found)), (value, type(value)))
        self.assertEqual(self.number_of(lambda: deal.with_last(AB, 3, 100)), 3)
        self.assertEqual(deal, ring_deal())

    def test_what_an_error_holds_is_copied(self):
        value = [[1]]
        with self.assertRaises(NoHanding) as caught:
            ring_deal().with_last(value, 0, 0)
        value[0].append(2)
        self.assertEqual(caught.exception.handing, [[1]])

    def test_with_wait(self):
        deal = ring_deal()
        for wait in (1, 2, 5):
            self.assertEqual(deal.with_wait(wait), Deal(RING, ["a"], ROWS, wait))
        self.assertEqual(deal.with_wait(wait=3).wait, 3)
        for value in all_but_numbers() + [0, 6, -1, 10 ** 999, "1"]:
            found = self.number_of(lambda: deal.with_wait(value))
            self.assertEqual((found, type(found)), (value, type(value)))
        self.assertEqual(deal, ring_deal())

    def test_with_leaders(self):
        deal = ring_deal()
        self.assertEqual(deal.with_leaders(["c", "b"]), Deal(RING, ["b", "c"], ROWS, 2))
        self.assertEqual(deal.with_leaders(("c", "b", "a")).leaders, ("a", "b", "c"))
        self.assertEqual(deal.with_leaders(leaders=["b"]).leaders, ("b",))
        for value in NO_LEADERS:
            with self.assertRaises(BadLeaders) as caught:
                deal.with_leaders(value)
            self.assertTrue(str(caught.exception))
        four = deal_of(FOUR, ["a"], [0] * 4, 1)
        self.assertEqual(four.with_leaders(list("dba")).leaders, ("a", "b", "d"))
        with self.assertRaises(BadLeaders):
            four.with_leaders(list("abcd"))
        leaders = ["c", "b"]
        other = deal.with_leaders(leaders)
        leaders.clear()
        self.assertEqual((other.leaders, deal), (("b", "c"), ring_deal()))


class TestTrails(DealTest):
    def test_trails_in_a_ring(self):
        deal = Deal(RING, ["a", "c"], ROWS, 2)
        self.assertEqual(trails(deal, CA, "a"), [("a",)])
        self.assertEqual(trails(deal, BC, "a"), [("c", "a")])
        self.assertEqual(trails(deal, AB, "a"), [("b", "c", "a")])
        self.assertEqual(trails(deal, AB, "c"), [("b", "c")])
        self.assertEqual(trails(deal, BC, "c"), [("c",)])

    def test_several_and_none(self):
        web = Web(list("abcd"), [AB, BC, ("b", "d"), ("c", "d"), ("d", "c")])
        deal = deal_of(web, ["d", "a"], [-1] * 4, 5)
        self.assertEqual(trails(deal, AB, "d"), [("b", "d"), ("b", "c", "d")])
        self.assertEqual(trails(deal, ("d", "c"), "d"), [("c", "d")])
        self.assertEqual(trails(deal, ("c", "d"), "d"), [("d",)])
        self.assertEqual(trails(deal, AB, "a"), [])

    def test_by_name_and_new_each_time(self):
        deal = ring_deal()
        told = trails(leader="a", handing=BC, deal=deal)
        self.assertEqual(told, [("c", "a")])
        told.append(("c",))
        self.assertEqual(trails(deal, BC, "a"), [("c", "a")])

    def test_against_plain_search(self):
        for deal in some_deals([2, 3, 4], 9, 150, 10 ** 9, 30):
            for handing in deal.web.handings:
                latest = []
                for leader in deal.leaders:
                    found = plain_trails(deal, handing, leader)
                    self.assertEqual(trails(deal, handing, leader), in_order(found))
                    latest.append(max([deal.last[handing][len(trail) - 1] for trail in found], default=-1))
                self.assertEqual(open_until(deal, handing), min(latest))

    def test_errors_in_the_order_of_the_parameters(self):
        deal = ring_deal()
        for value in strange_values() + [RING]:
            for use in (lambda: trails(value, None, None), lambda: open_until(value, None)):
                with self.assertRaises(BadDeal) as caught:
                    use()
                self.assertEqual(caught.exception.part, "deal")
        for value in strange_values() + [("b", "a"), ["a", "b"], "ab", ("a", "b", "c"), deal]:
            for use in (lambda: trails(deal, value, None), lambda: open_until(deal, value)):
                with self.assertRaises(NoHanding) as caught:
                    use()
                self.assertEqual(caught.exception.handing, value)
        for value in strange_values() + ["b", "c", ("a",), ["a"], deal]:
            with self.assertRaises(NoParty) as caught:
                trails(deal, AB, value)
            self.assertEqual(caught.exception.party, value)


class TestOpenUntil(DealTest):
    def test_in_a_ring(self):
        deal = ring_deal()
        self.assertEqual((open_until(deal, AB), open_until(deal, BC), open_until(deal, CA)), (4, 2, 0))

    def test_the_greatest_for_a_leader_and_the_least_over_leaders(self):
        web = Web(list("abcd"), [AB, BC, ("b", "d"), ("c", "d"), ("d", "c")])
        deal = deal_of(web, ["d"], [99, 3, 8, 50], 5)
        self.assertEqual(open_until(deal, AB), 8)
        self.assertEqual(open_until(deal.with_last(AB, 2, 1), AB), 3)
        self.assertEqual(open_until(deal.with_leaders(["c", "d"]), AB), 8)
        self.assertEqual(open_until(deal.with_leaders(["c", "d"]).with_last(AB, 1, 20), AB), 20)
        self.assertEqual(open_until(deal.with_leaders(["b", "c", "d"]).with_last(AB, 0, 4), AB), 4)

    def test_never(self):
        deal = ring_deal()
        self.assertEqual(open_until(deal.with_last(AB, 2, -1), AB), -1)
        self.assertEqual(open_until(deal_of(LINE, ["a"], [99, 99, 99], 1), AB), -1)
        self.assertEqual(open_until(deal_of(LINE, ["a", "b"], [99, 99, 99], 1), AB), -1)
        self.assertEqual(open_until(deal_of(LINE, ["b"], [99, 0, 0], 1), AB), 99)
        self.assertEqual(open_until(handing=AB, deal=deal_of(LINE, ["b"], [0, 99, 99], 1)), 0)


if __name__ == "__main__":
    unittest.main()

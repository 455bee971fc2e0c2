"""Points 70 and 71: least last ticks, by trails and plain ones, and who can lead with plain ones."""

import itertools
import random
import unittest

from handlocks.deals import Deal
from handlocks.errors import BadLeaders, BadNumber, BadWeb
from handlocks.keeping import goes_through
from handlocks.laying import order
from handlocks.losing import slips
from handlocks.tables import least_last, plain_last, plain_leaders
from handlocks.webs import Web, farthest, is_tied, ways
from tests import helper
from tests.helper import LINE, RING, all_handings, all_webs, lists_and_no_lists, some_webs, strange_values

AB, BC, CA, BA, AC, CB = ("a", "b"), ("b", "c"), ("c", "a"), ("b", "a"), ("a", "c"), ("c", "b")
ALL = ["a", "b", "c"]
# Two parties who hand to one another, and a third to whom one of them hands.
TAIL = Web(ALL, [AB, BA, BC])
# Two rings with b in common.
EIGHT = Web(ALL, [AB, BA, BC, CB])
USES = (least_last, plain_last)


def deal_with(web, leaders, last, wait):
    """The deal with a dict to rows, or with a plain one."""
    many = len(web.parties)
    rows = {handing: row if isinstance(row, tuple) else (row,) * many for handing, row in last.items()}
    return Deal(web, leaders, rows, wait)


class Fitting:
    """Whether dicts fit a web and leaders, by the words of points 50 and 70."""

    def __init__(self, web, leaders, wait):
        self.web, self.leaders, self.wait = web, leaders, wait
        self.pairs = []
        found = helper.plain_ways(web)
        for out, handing in itertools.product(web.handings, web.handings):
            for leader in leaders if out[0] == handing[1] else []:
                self.pairs += [(out, len(way) - 1, handing) for way in found[out[1], leader] if out[0] not in way]

    def has_slips(self, last):
        return any(last[out][k] != -1 and last[out][k] + self.wait > last[handing][k + 1] for out, k, handing in self.pairs)

    def fits(self, last):
        # Where nothing can ever be shown nothing is taken: so much can be told without a deal.
        if self.has_slips(last) or any(max(row) == -1 for row in last.values()):
            return False
        return goes_through(Deal(self.web, self.leaders, last, self.wait))


def tables_of(web, choices):
    """All dicts from the handings to rows, by a list of what may stand at each place of each of them."""
    many = len(web.parties)
    for chosen in itertools.product(*choices):
        yield {handing: chosen[at * many:at * many + many] for at, handing in enumerate(web.handings)}


def plain_tables_of(web, numbers):
    for chosen in itertools.product(numbers, repeat=len(web.handings)):
        yield {handing: (tick,) * len(web.parties) for handing, tick in zip(web.handings, chosen)}


def least_of(tables):
    """Of tables that fit the one each number of which is as small as in any other one; None if there are none."""
    if not tables:
        return None
    least = {handing: tuple(map(min, zip(*[last[handing] for last in tables]))) for handing in tables[0]}
    assert least in tables
    return least


def leader_lots(web):
    return [lot for lot in helper.all_lots(web.parties) if 1 <= len(lot) <= 3]


class TestLeastLast(unittest.TestCase):
    def test_in_a_ring(self):
        self.assertEqual(least_last(RING, ["a"], 2), {AB: (-1, -1, 4), BC: (-1, 2, -1), CA: (0, -1, -1)})
        self.assertEqual(least_last(RING, ["a"], 5), {AB: (-1, -1, 10), BC: (-1, 5, -1), CA: (0, -1, -1)})
        self.assertEqual(least_last(RING, ["a", "c"], 1), {AB: (-1, 1, 2), BC: (0, 1, -1), CA: (0, -1, 2)})
        self.assertEqual(least_last(RING, ALL, 1), {AB: (0, 1, 2), BC: (0, 1, 2), CA: (0, 1, 2)})

    def test_trails_of_several_lengths(self):
        web = Web(ALL, [AB, BC, CA, BA])
        self.assertEqual(least_last(web, ["a"], 3), {AB: (-1, 3, 6), BA: (0, -1, -1), BC: (-1, 3, -1), CA: (0, -1, -1)})

    def test_the_greatest_numbers(self):
        parties = list("abcdef")
        web = Web(parties, list(zip(parties, parties[1:] + parties[:1])))
        self.assertEqual(least_last(web, ["a"], 5)["a", "b"], (-1, -1, -1, -1, -1, 25))
        self.assertEqual(plain_last(web, ["a"], 5), {("a", "b"): 25, ("b", "c"): 20, ("c", "d"): 15, ("d", "e"): 10,
                                                     ("e", "f"): 5, ("f", "a"): 0})

    def test_none_without_an_order(self):
        web = Web(list("abcd"), [AB, BA, ("c", "d"), ("d", "c"), BC, ("d", "a")])
        self.assertTrue(is_tied(web))
        for use in USES:
            self.assertIsNone(use(web, ["a"], 1))
            self.assertIsNone(use(EIGHT, ["a"], 1))
            self.assertIsNotNone(use(EIGHT, ["b"], 1))
        self.assertIsNotNone(least_last(web, ["a", "c"], 1))

    def test_none_without_a_way_from_a_taker_to_a_leader(self):
        for use in USES:
            self.assertIsNone(use(TAIL, ["a"], 1))
            self.assertIsNone(use(TAIL, ["a", "b"], 1))
            self.assertIsNone(use(LINE, ["a"], 1))
            self.assertIsNone(use(LINE, ["b"], 1))
            self.assertIsNone(use(TAIL, ["a", "c"], 1))
        self.assertIsNone(least_last(TAIL, ["b", "c"], 1))

    def test_a_web_without_rings(self):
        self.assertEqual(least_last(LINE, ["c"], 2), {AB: (-1, 2, -1), BC: (0, -1, -1)})
        self.assertEqual(plain_last(LINE, ["c"], 2), {AB: 2, BC: 0})
        self.assertIsNone(least_last(LINE, ["b", "c"], 2))

    def test_parties_without_handings(self):
        web = Web(list("abz"), [AB, BA])
        self.assertEqual(least_last(web, ["b"], 1), {AB: (0, -1, -1), BA: (-1, 1, -1)})
        self.assertIsNone(least_last(web, ["b", "z"], 1))


class TestPlainLast(unittest.TestCase):
    def test_in_a_ring(self):
        self.assertEqual(plain_last(RING, ["a"], 2), {AB: 4, BC: 2, CA: 0})
        self.assertEqual(plain_last(RING, ["b"], 3), {AB: 0, BC: 6, CA: 3})
        self.assertIsNone(plain_last(RING, ["a", "b"], 2))
        self.assertIsNone(plain_last(RING, ALL, 2))

    def test_the_longest_way_counts(self):
        web = Web(ALL, [AB, BC, CA, BA])
        self.assertEqual(plain_last(web, ["a"], 3), {AB: 6, BA: 0, BC: 3, CA: 0})
        self.assertEqual(plain_last(EIGHT, ["b"], 1), {AB: 0, BA: 1, BC: 1, CB: 0})

    def test_in_webs_that_are_not_tied(self):
        web = Web(list("abcd"), [BC, ("c", "d"), AB])
        self.assertIsNone(plain_last(web, ["c", "d"], 2))
        self.assertEqual(plain_last(web, ["d"], 2), {AB: 4, BC: 2, ("c", "d"): 0})
        # With two leaders each must answer to the word of the other one, later than that one must.
        web = Web(["a", "x", "y"], [("a", "x"), ("x", "y"), ("y", "x")])
        self.assertIsNone(plain_last(web, ["x", "y"], 2))
        self.assertEqual(plain_last(web, ["x"], 2), {("a", "x"): 0, ("x", "y"): 2, ("y", "x"): 0})
        self.assertEqual(plain_last(web, ["y"], 2), {("a", "x"): 2, ("x", "y"): 0, ("y", "x"): 2})


class TestAgainstAllTables(unittest.TestCase):
    def check_tables(self, web, leaders, wait, tables, told):
        fitting = Fitting(web, leaders, wait)
        self.assertEqual(told, least_of([last for last in tables if fitting.fits(last)]))

    def test_two_parties(self):
        for web, wait in itertools.product(all_webs(["a", "b"]), (1, 2)):
            for leaders in leader_lots(web):
                tables = tables_of(web, [range(-1, 4)] * 2 * len(web.handings))
                self.check_tables(web, leaders, wait, tables, least_last(web, leaders, wait))

    def choices_for(self, web, leaders):
        """Numbers up to what is needed; -1 and 0 where no trail has the length, for there a number opens nothing."""
        found = []
        for _, taker in web.handings:
            lengths = {len(way) - 1 for leader in leaders for way in ways(web, taker, leader)}
            found += [range(-1, k + 2) if k in lengths else (-1, 0) for k in range(len(web.parties))]
        return found

    def test_three_parties(self):
        for web in all_webs(ALL):
            if len(web.handings) <= 2:
                for leaders in leader_lots(web):
                    tables = tables_of(web, self.choices_for(web, leaders))
                    self.check_tables(web, leaders, 1, tables, least_last(web, leaders, 1))

    def test_more_handings(self):
        for web, leaders in ((RING, ("a",)), (EIGHT, ("b",)), (TAIL, ("c",)), (RING, ("b",)), (RING, ("a", "c"))):
            tables = tables_of(web, self.choices_for(web, leaders))
            self.check_tables(web, leaders, 1, tables, least_last(web, leaders, 1))

    def test_plain_ones(self):
        webs = [web for web in all_webs(["a", "b"]) + all_webs(ALL) if len(web.handings) <= 4]
        webs += [web for web in some_webs(list("abcd"), 40, 70) if len(web.handings) <= 4]
        found = set()
        for web in webs:
            for leaders in leader_lots(web):
                told = plain_last(web, leaders, 1)
                found.add((told is None, len(leaders)))
                rows = told and {handing: (told[handing],) * len(web.parties) for handing in told}
                self.check_tables(web, leaders, 1, plain_tables_of(web, range(-1, 4)), rows)
        self.assertTrue({(False, 1), (True, 1), (True, 2), (True, 3)} <= found)


class TestFacts(unittest.TestCase):
    WEBS = all_webs(["a", "b"]) + all_webs(ALL) + some_webs(list("abcd"), 80, 71) + some_webs(list("abcdef"), 40, 72)

    def test_what_is_told_fits_and_nothing_less(self):
        chance = random.Random(73)
        for web in self.WEBS:
            for leaders, wait in [(lot, chance.randint(1, 5)) for lot in chance.sample(leader_lots(web), 2)]:
                for use in USES:
                    last = use(web, leaders, wait)
                    if last is not None:
                        deal = deal_with(web, leaders, last, wait)
                        self.assertTrue(goes_through(deal))
                        self.assertEqual([slips(deal, party) for party in web.parties], [[]] * len(web.parties))
                        self.check_nothing_less(web, leaders, wait, last)

    def check_nothing_less(self, web, leaders, wait, last):
        fitting = Fitting(web, leaders, wait)
        for handing, row in deal_with(web, leaders, last, wait).last.items():
            for k, tick in enumerate(row):
                if tick > -1:
                    less = deal_with(web, leaders, last, wait).last
                    less[handing] = row[:k] + (tick - 1,) + row[k + 1:] if last[handing] == row else (tick - 1,) * len(row)
                    self.assertFalse(fitting.fits(less))

    def test_which_have_one(self):
        for web in self.WEBS:
            for leaders in leader_lots(web):
                come = all(ways(web, taker, leader) for _, taker in web.handings for leader in leaders)
                fit = come and order(web, leaders)[0] == "order"
                last = least_last(web, leaders, 2)
                self.assertEqual(last is not None, fit)
                if fit:
                    for handing in web.handings:
                        lengths = {len(way) - 1 for leader in leaders for way in ways(web, handing[1], leader)}
                        row = tuple(2 * k if k in lengths else -1 for k in range(len(web.parties)))
                        self.assertEqual(last[handing], row)
                else:
                    self.assertIsNone(plain_last(web, leaders, 2))

    def test_plain_ones_in_tied_webs(self):
        seen = set()
        for web in self.WEBS:
            for leaders in leader_lots(web) if is_tied(web) else []:
                fit = len(leaders) == 1 and all(leaders[0] in ring for ring in helper.plain_rings(web))
                seen.add(fit)
                last = plain_last(web, leaders, 3)
                if fit:
                    self.assertEqual(last, {handing: 3 * farthest(web, handing[1], leaders[0]) for handing in web.handings})
                else:
                    self.assertIsNone(last)
        self.assertEqual(seen, {True, False})

    def test_plain_leaders(self):
        for web in self.WEBS:
            circles = helper.plain_rings(web)
            self.assertEqual(plain_leaders(web), tuple(p for p in web.parties if all(p in ring for ring in circles)))
            if is_tied(web):
                fit = tuple(p for p in web.parties if plain_last(web, [p], 1) is not None)
                self.assertEqual(plain_leaders(web), fit)


class TestPlainLeaders(unittest.TestCase):
    def test_examples(self):
        self.assertEqual(plain_leaders(RING), ("a", "b", "c"))
        self.assertEqual(plain_leaders(EIGHT), ("b",))
        self.assertEqual(plain_leaders(LINE), ("a", "b", "c"))
        self.assertEqual(plain_leaders(TAIL), ("a", "b"))
        self.assertEqual(plain_leaders(Web(ALL, all_handings(ALL))), ())
        self.assertEqual(plain_leaders(web=RING.with_handing(BA)), ("a", "b"))


class TestArguments(unittest.TestCase):
    def test_kinds_and_new_each_time(self):
        told = least_last(RING, ["a"], 2)
        self.assertEqual(list(told), [AB, BC, CA])
        self.assertEqual({type(row) for row in told.values()}, {tuple})
        told[AB] = None
        self.assertEqual(least_last(RING, ["a"], 2)[AB], (-1, -1, 4))
        told = plain_last(RING, ["a"], 2)
        self.assertEqual(list(told), [AB, BC, CA])
        told.clear()
        self.assertEqual(plain_last(RING, ["a"], 2), {AB: 4, BC: 2, CA: 0})
        self.assertIs(type(plain_leaders(RING)), tuple)

    def test_keys_ascend(self):
        web = Web(["b", "a", "c"], [CA, BC, BA, AB])
        self.assertEqual(list(least_last(web, ["a"], 1)), [AB, BA, BC, CA])
        self.assertEqual(list(plain_last(web, ["a"], 1)), [AB, BA, BC, CA])

    def test_by_name_and_equal_arguments(self):
        same = Web(("c", "b", "a"), (CA, BC, AB))
        for use in USES:
            leaders = ["a"]
            self.assertEqual(use(wait=2, leaders=leaders, web=same), use(RING, ("a",), 2))
            self.assertEqual(leaders, ["a"])
        self.assertEqual(least_last(RING, ["c", "a"], 1), least_last(RING, ("a", "c"), 1))

    def test_errors_in_the_order_of_the_parameters(self):
        for value in strange_values():
            if not isinstance(value, Web):
                for use in (lambda web: least_last(web, None, None), lambda web: plain_last(web, None, None), plain_leaders):
                    with self.assertRaises(BadWeb) as caught:
                        use(value)
                    self.assertEqual(caught.exception.part, "web")
        for use in USES:
            for value in lists_and_no_lists() + [[], (), ["d"], ["a", "a"], "a", "abc", {"a": 1}]:
                with self.assertRaises(BadLeaders) as caught:
                    use(RING, value, None)
                self.assertTrue(str(caught.exception))
            for value in [0, 6, -1, 10 ** 999, None, True, False, "1", [1], (1,), {1: 1}, RING]:
                with self.assertRaises(BadNumber) as caught:
                    use(RING, ["a"], value)
                self.assertEqual(caught.exception.number, value)
                self.assertIs(type(caught.exception.number), type(value))
                # A web or leaders with which none fits make no difference.
                with self.assertRaises(BadNumber):
                    use(LINE, ["a"], value)

    def test_four_leaders(self):
        web = Web(list("abcd"), [AB, BC, ("c", "d"), ("d", "a")])
        for use in USES:
            with self.assertRaises(BadLeaders):
                use(web, list("abcd"), 1)
        self.assertIsNotNone(least_last(web, list("abd"), 1))


if __name__ == "__main__":
    unittest.main()

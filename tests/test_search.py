"""Points 2, 11, 20 and 21: what the program tells of many small webs is what a plain search finds."""

import itertools
import unittest

from handlocks.laying import is_laying, is_order, laid_by, order
from handlocks.leaders import apart, fewest_leaders, least_leaders
from handlocks.webs import Web, closed_lots, farthest, is_tied, nearest, rings, ways
from tests import helper
from tests.helper import small_webs

WEBS = small_webs()


class TestAgainstPlainSearch(unittest.TestCase):
    def test_the_webs_are_of_all_sorts(self):
        self.assertEqual({len(web.parties) for web in WEBS}, {2, 3, 4, 5, 6})
        self.assertEqual({len(web.handings) for web in WEBS}, set(range(1, 13)))
        self.assertEqual({is_tied(web) for web in WEBS}, {True, False})
        self.assertEqual({bool(rings(web)) for web in WEBS}, {True, False})

    def test_ways(self):
        for web in WEBS:
            found = helper.plain_ways(web)
            for start, end in found:
                self.assertEqual(ways(web, start, end), found[start, end])
                lengths = [len(way) - 1 for way in found[start, end]]
                self.assertEqual(nearest(web, start, end), min(lengths, default=None))
                self.assertEqual(farthest(web, start, end), max(lengths, default=None))
            self.assertIs(is_tied(web), all(found.values()))

    def test_rings(self):
        for web in WEBS:
            self.assertEqual(rings(web), helper.plain_rings(web))

    def test_closed_lots(self):
        for web in WEBS:
            self.assertEqual(closed_lots(web), helper.plain_closed_lots(web))
            self.assertEqual(closed_lots(web) == [], is_tied(web))

    def test_ins_outs_and_turned(self):
        for web in WEBS:
            for party in web.parties:
                self.assertEqual(web.ins(party), tuple(h for h in web.handings if h[1] == party))
                self.assertEqual(web.outs(party), tuple(h for h in web.handings if h[0] == party))
            turned = web.turned()
            self.assertEqual(turned.handings, tuple(sorted(h[::-1] for h in web.handings)))
            self.assertEqual(is_tied(turned), is_tied(web))

    def test_is_laying(self):
        for web in helper.all_webs(["a", "b", "c"]):
            lots = helper.all_lots(web.parties)
            rows = [()] + helper.all_rows(web.parties)
            for leaders, keepers, row in itertools.product(lots, lots, rows):
                told = is_laying(web, leaders, keepers, list(row))
                self.assertIs(told, helper.plain_is_laying(web, leaders, keepers, row))

    def test_laid_by(self):
        for web in helper.all_webs(["a", "b", "c"]):
            for row in [()] + helper.all_rows(web.parties):
                self.assertEqual(laid_by(web, row), tuple(h for h in web.handings if h[0] in row))

    def test_order(self):
        for web in WEBS[::3]:
            circles = helper.plain_rings(web)
            for leaders in helper.all_lots(web.parties)[::3]:
                self.check_order(web, leaders, circles)

    def check_order(self, web, leaders, circles):
        layings = helper.plain_full_layings(web, leaders)
        free = [ring for ring in circles if not set(ring) & set(leaders)]
        self.assertEqual(bool(layings), not free)
        told = order(web, leaders)
        self.assertTrue(is_order(web, leaders, told))
        if layings:
            # The least laying has at each place the least party that can be next.
            self.assertEqual(told, ("order", layings[0]))
        else:
            self.assertEqual(told[0], "ring")
            self.assertIn(told[1], free)

    def test_is_order(self):
        for web in helper.all_webs(["a", "b", "c"]) + helper.some_webs(list("abcd"), 40, 7):
            circles = helper.plain_rings(web)
            for leaders in helper.all_lots(web.parties):
                layings = helper.plain_full_layings(web, leaders)
                for row in helper.all_rows(web.parties):
                    self.assertIs(is_order(web, leaders, ("order", row)), list(row) in layings)
                    is_free = row in circles and not set(row) & set(leaders)
                    self.assertIs(is_order(web, leaders, ("ring", row)), is_free)

    def test_leaders(self):
        for web in WEBS:
            found = helper.plain_least_leaders(web)
            self.assertEqual(least_leaders(web), found)
            self.assertEqual(fewest_leaders(web), min(len(lot) for lot in found))

    def test_least_leaders_let_all_come_to_lay(self):
        for web in WEBS:
            for lot in least_leaders(web):
                self.assertEqual(order(web, lot)[0], "order")
                for party in lot:
                    fewer = [other for other in lot if other != party]
                    self.assertEqual(order(web, fewer)[0], "ring")

    def test_apart(self):
        for web in WEBS:
            told = apart(web)
            self.assertTrue(all(ring in helper.plain_rings(web) for ring in told))
            self.assertTrue(helper.are_apart(told))
            self.assertEqual(len(told), helper.plain_most_apart(web))
            self.assertGreaterEqual(fewest_leaders(web), len(told))

    def test_equal_arguments_give_equal_results(self):
        for web in WEBS[::5]:
            other = Web(list(web.parties)[::-1], list(web.handings)[::-1])
            self.assertEqual(other, web)
            for use in (rings, closed_lots, least_leaders, apart):
                self.assertEqual(use(other), use(web))
            leaders = web.parties[:1]
            self.assertEqual(order(other, list(leaders)), order(web, leaders))


if __name__ == "__main__":
    unittest.main()

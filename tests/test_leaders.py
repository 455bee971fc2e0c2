"""Point 21: least lots of leaders, and rings apart, by examples and wrong inputs."""

import unittest

from handlocks.errors import BadWeb
from handlocks.leaders import apart, fewest_leaders, least_leaders
from handlocks.webs import Web
from tests.helper import LINE, RING, all_handings, strange_values

PAIRS = Web(list("abcdef"), [("a", "b"), ("b", "a"), ("c", "d"), ("d", "c"), ("e", "f"), ("f", "e")])
FULL = Web(list("abcd"), all_handings("abcd"))


class TestLeaders(unittest.TestCase):
    def test_without_rings(self):
        self.assertEqual(least_leaders(LINE), [()])
        self.assertEqual(fewest_leaders(LINE), 0)
        self.assertEqual(apart(LINE), [])

    def test_one_ring(self):
        self.assertEqual(least_leaders(RING), [("a",), ("b",), ("c",)])
        self.assertEqual(fewest_leaders(RING), 1)
        self.assertEqual(apart(RING), [("a", "b", "c")])

    def test_two_parties(self):
        self.assertEqual(least_leaders(Web(["a", "b"], [("a", "b"), ("b", "a")])), [("a",), ("b",)])
        self.assertEqual(least_leaders(Web(["a", "b"], [("b", "a")])), [()])

    def test_rings_with_a_common_party(self):
        web = Web(["a", "b", "c"], [("a", "b"), ("b", "a"), ("b", "c"), ("c", "b")])
        self.assertEqual(least_leaders(web), [("b",), ("a", "c")])
        self.assertEqual(fewest_leaders(web), 1)
        self.assertIn(apart(web), [[("a", "b")], [("b", "c")]])

    def test_rings_apart(self):
        self.assertEqual(len(least_leaders(PAIRS)), 8)
        self.assertEqual(least_leaders(PAIRS)[:2], [("a", "c", "e"), ("a", "c", "f")])
        self.assertEqual(fewest_leaders(PAIRS), 3)
        self.assertEqual(sorted(apart(PAIRS)), [("a", "b"), ("c", "d"), ("e", "f")])

    def test_more_leaders_than_rings_apart(self):
        web = Web(["a", "b", "c"], all_handings("abc"))
        self.assertEqual(least_leaders(web), [("a", "b"), ("a", "c"), ("b", "c")])
        self.assertEqual(fewest_leaders(web), 2)
        self.assertEqual(len(apart(web)), 1)

    def test_twelve_handings(self):
        self.assertEqual(least_leaders(FULL), [("a", "b", "c"), ("a", "b", "d"), ("a", "c", "d"), ("b", "c", "d")])
        self.assertEqual(fewest_leaders(FULL), 3)
        self.assertEqual(len(apart(FULL)), 2)

    def test_kinds_and_new_each_time(self):
        for use in (least_leaders, apart):
            for web in (LINE, RING, PAIRS, FULL):
                first = use(web=web)
                again = list(first)
                self.assertIs(type(first), list)
                self.assertTrue(all(type(row) is tuple for row in first))
                first.append("z")
                self.assertEqual(use(Web(web.parties[::-1], list(web.handings[::-1]))), again)
        self.assertIs(type(fewest_leaders(web=PAIRS)), int)

    def test_what_is_no_web(self):
        for use in (least_leaders, fewest_leaders, apart):
            for value in strange_values() + [RING.handings, (RING.parties, RING.handings)]:
                if not isinstance(value, Web):
                    with self.assertRaises(BadWeb) as caught:
                        use(value)
                    self.assertEqual(caught.exception.part, "web")


if __name__ == "__main__":
    unittest.main()

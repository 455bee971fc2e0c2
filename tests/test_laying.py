"""Point 20: layings, what is laid, and orders, by examples and wrong inputs."""

import unittest

from handlocks.errors import BadKeepers, BadLaying, BadLeaders, BadWeb
from handlocks.laying import is_laying, is_order, laid_by, order
from handlocks.webs import Web
from tests.helper import LINE, RING, all_handings, lists_and_no_lists, strange_values

WRONG_LISTS = lists_and_no_lists() + ["abc", "a", {"a": 1}, ["a", "b", "a"], ("b", "b"), ["d"], ["a", "d"], ["a", True]]
ALL = ["a", "b", "c"]


class TestIsLaying(unittest.TestCase):
    def test_a_keeper_stands_behind_its_givers(self):
        self.assertIs(is_laying(LINE, [], ALL, ["a", "b", "c"]), True)
        self.assertIs(is_laying(LINE, [], ALL, ["a", "b"]), True)
        self.assertIs(is_laying(LINE, [], ALL, ["a"]), True)
        self.assertIs(is_laying(LINE, [], ALL, []), True)
        self.assertIs(is_laying(LINE, [], ALL, ["b", "a"]), False)
        self.assertIs(is_laying(LINE, [], ALL, ["b"]), False)
        self.assertIs(is_laying(LINE, [], ALL, ["a", "c", "b"]), False)
        self.assertIs(is_laying(LINE, [], ALL, ["a", "c"]), False)

    def test_all_givers_are_meant(self):
        web = Web(ALL, [("a", "c"), ("b", "c")])
        self.assertTrue(is_laying(web, [], ALL, ["b", "a", "c"]))
        self.assertFalse(is_laying(web, [], ALL, ["b", "c", "a"]))
        self.assertFalse(is_laying(web, [], ALL, ["a", "c"]))

    def test_leaders_and_free_parties_lay_whenever_they_like(self):
        self.assertFalse(is_laying(RING, [], ALL, ["a", "b", "c"]))
        self.assertTrue(is_laying(RING, ["a"], ALL, ["a", "b", "c"]))
        self.assertFalse(is_laying(RING, ["a"], ALL, ["b", "c", "a"]))
        self.assertTrue(is_laying(RING, [], ["b", "c"], ["a", "b", "c"]))
        self.assertFalse(is_laying(RING, [], ["a"], ["a", "b", "c"]))
        self.assertTrue(is_laying(RING, [], ["c"], ["b", "c", "a"]))
        self.assertTrue(is_laying(RING, [], [], ["c", "a", "b"]))
        self.assertTrue(is_laying(RING, ALL, ALL, ["c", "b", "a"]))
        self.assertTrue(is_laying(RING, ALL, [], ["b"]))

    def test_tuples_for_lists(self):
        self.assertTrue(is_laying(RING, ("a",), ("a", "b", "c"), ("a", "b", "c")))
        self.assertFalse(is_laying(RING, ("a",), ("a", "b", "c"), ("b", "a", "c")))
        self.assertTrue(is_laying(RING, (), (), ()))

    def test_by_name(self):
        self.assertTrue(is_laying(thing=["a"], keepers=["a"], leaders=["a"], web=RING))

    def test_of_any_value(self):
        for value in WRONG_LISTS:
            self.assertIs(is_laying(RING, ALL, [], value), False, value)
            self.assertIs(is_laying(RING, [], ALL, value), False, value)
        self.assertIs(is_laying(RING, [], [], [["a"], "b"]), False)

    def test_errors_in_the_order_of_the_parameters(self):
        for value in strange_values():
            if not isinstance(value, Web):
                with self.assertRaises(BadWeb) as caught:
                    is_laying(value, None, None, None)
                self.assertEqual(caught.exception.part, "web")
        for value in WRONG_LISTS:
            with self.assertRaises(BadLeaders) as caught:
                is_laying(RING, value, None, None)
            self.assertTrue(str(caught.exception))
            with self.assertRaises(BadKeepers) as caught:
                is_laying(RING, [], value, None)
            self.assertTrue(str(caught.exception))

    def test_arguments_are_not_changed(self):
        leaders, keepers, thing = ["c", "a"], ["b", "a"], ["c", "a", "b"]
        is_laying(RING, leaders, keepers, thing)
        self.assertEqual((leaders, keepers, thing), (["c", "a"], ["b", "a"], ["c", "a", "b"]))


class TestLaidBy(unittest.TestCase):
    def test_laid_by(self):
        web = Web(list("abcd"), [("b", "a"), ("a", "c"), ("a", "b"), ("c", "d")])
        self.assertEqual(laid_by(web, ["b", "a"]), (("a", "b"), ("a", "c"), ("b", "a")))
        self.assertEqual(laid_by(web, ("a", "b")), (("a", "b"), ("a", "c"), ("b", "a")))
        self.assertEqual(laid_by(web, []), ())
        self.assertEqual(laid_by(web, ["d"]), ())
        self.assertEqual(laid_by(web, ["d", "c", "b", "a"]), web.handings)
        self.assertEqual(laid_by(laying=["c"], web=web), (("c", "d"),))

    def test_order_does_not_matter_here(self):
        self.assertEqual(laid_by(LINE, ["b", "a"]), LINE.handings)

    def test_at_of_the_first_wrong_item(self):
        wrong = [(["d"], 0), (["a", "d", "e"], 1), (["a", "a"], 1), (["a", "b", "a", "z"], 2), (("a", "b", "c", "c"), 3),
                 ([["a"], "a"], 0), (["a", ["a"]], 1), (["a", None], 1), ([True], 0), (["b", 1, "b"], 1), (["a", LINE], 1),
                 ([{}], 0), (["A"], 0), (["c", "c", "d"], 1), (["c", "d", "c"], 1)]
        for laying, at in wrong:
            with self.assertRaises(BadLaying) as caught:
                laid_by(LINE, laying)
            self.assertEqual(caught.exception.at, at, laying)

    def test_at_of_no_list(self):
        for value in strange_values() + ["abc", "a", {"a": 1}]:
            if not isinstance(value, (list, tuple)):
                with self.assertRaises(BadLaying) as caught:
                    laid_by(LINE, value)
                self.assertIsNone(caught.exception.at)

    def test_the_web_comes_first(self):
        with self.assertRaises(BadWeb) as caught:
            laid_by(None, None)
        self.assertEqual(caught.exception.part, "web")

    def test_argument_is_not_changed(self):
        laying = ["b", "a"]
        laid_by(LINE, laying)
        self.assertEqual(laying, ["b", "a"])


class TestOrder(unittest.TestCase):
    def test_without_rings(self):
        self.assertEqual(order(LINE, []), ("order", ["a", "b", "c"]))
        self.assertEqual(order(LINE.turned(), []), ("order", ["c", "b", "a"]))
        self.assertEqual(order(LINE.turned(), ["a"]), ("order", ["a", "c", "b"]))

    def test_the_least_party_that_can_be_next(self):
        web = Web(list("abcd"), [("d", "a"), ("d", "b")])
        self.assertEqual(order(web, []), ("order", ["c", "d", "a", "b"]))
        self.assertEqual(order(RING, ["c"]), ("order", ["c", "a", "b"]))
        self.assertEqual(order(RING, ["c", "b"]), ("order", ["b", "c", "a"]))

    def test_all_leaders_and_no_leaders(self):
        self.assertEqual(order(RING, ALL), ("order", ["a", "b", "c"]))
        self.assertEqual(order(RING, ["c", "b", "a"]), ("order", ["a", "b", "c"]))
        self.assertEqual(order(RING, []), ("ring", ("a", "b", "c")))
        self.assertEqual(order(RING, ()), ("ring", ("a", "b", "c")))

    def test_a_ring_without_a_leader(self):
        web = Web(list("abcd"), [("a", "b"), ("b", "a"), ("c", "d"), ("d", "c")])
        self.assertEqual(order(web, ["a"]), ("ring", ("c", "d")))
        self.assertEqual(order(web, ["d"]), ("ring", ("a", "b")))
        self.assertEqual(order(web, ["d", "a"]), ("order", ["a", "b", "d", "c"]))

    def test_kinds_and_new_each_time(self):
        first = order(LINE, [])
        self.assertIs(type(first), tuple)
        self.assertIs(type(first[1]), list)
        first[1].clear()
        self.assertEqual(order(LINE, []), ("order", ["a", "b", "c"]))
        self.assertIs(type(order(RING, [])[1]), tuple)

    def test_by_name_and_arguments_not_changed(self):
        leaders = ["c", "a"]
        self.assertEqual(order(leaders=leaders, web=RING), ("order", ["a", "b", "c"]))
        self.assertEqual(leaders, ["c", "a"])

    def test_errors_in_the_order_of_the_parameters(self):
        for value in strange_values():
            if not isinstance(value, Web):
                for use in (lambda: order(value, None), lambda: is_order(value, None, None)):
                    with self.assertRaises(BadWeb) as caught:
                        use()
                    self.assertEqual(caught.exception.part, "web")
        for value in WRONG_LISTS:
            with self.assertRaises(BadLeaders):
                order(RING, value)
            with self.assertRaises(BadLeaders):
                is_order(RING, value, None)


class TestIsOrder(unittest.TestCase):
    def test_orders(self):
        self.assertIs(is_order(LINE, [], ("order", ["a", "b", "c"])), True)
        self.assertIs(is_order(LINE, [], ("order", ("a", "b", "c"))), True)
        self.assertIs(is_order(LINE, [], ("order", ["a", "b"])), False)
        self.assertIs(is_order(LINE, [], ("order", ["a", "c", "b"])), False)
        self.assertIs(is_order(LINE, [], ("order", [])), False)
        self.assertIs(is_order(LINE, ["c"], ("order", ["c", "a", "b"])), True)
        self.assertIs(is_order(LINE, ("c",), ("order", ["a", "c", "b"])), True)
        self.assertIs(is_order(RING, ["b"], ("order", ["b", "c", "a"])), True)
        self.assertIs(is_order(RING, ["b"], ("order", ["a", "b", "c"])), False)
        self.assertIs(is_order(RING, ALL, ("order", ["c", "b", "a"])), True)

    def test_rings(self):
        self.assertIs(is_order(RING, [], ("ring", ("a", "b", "c"))), True)
        self.assertIs(is_order(RING, (), ("ring", ("a", "b", "c"))), True)
        self.assertIs(is_order(RING, [], ("ring", ["a", "b", "c"])), False)
        self.assertIs(is_order(RING, [], ("ring", ("b", "c", "a"))), False)
        self.assertIs(is_order(RING, [], ("ring", ("a", "c", "b"))), False)
        self.assertIs(is_order(RING, [], ("ring", ("a", "b"))), False)
        self.assertIs(is_order(RING, ["b"], ("ring", ("a", "b", "c"))), False)
        self.assertIs(is_order(LINE, [], ("ring", ("a", "b", "c"))), False)

    def test_any_ring_without_a_leader(self):
        web = Web(ALL, all_handings("abc"))
        for ring in [("a", "b"), ("a", "c"), ("b", "c"), ("a", "b", "c"), ("a", "c", "b")]:
            self.assertTrue(is_order(web, [], ("ring", ring)))
            self.assertEqual(is_order(web, ["c"], ("ring", ring)), "c" not in ring)

    def test_of_any_value(self):
        wrong = [["order", ["a", "b", "c"]], ("order",), ("order", ["a", "b", "c"], None), "order", ("Order", ["a", "b", "c"]),
                 ("ring", ["a", "b", "c"]), ["ring", ("a", "b", "c")], (["a", "b", "c"], "order"), {"order": ["a", "b", "c"]},
                 (None, ["a", "b", "c"]), (["order"], ["a", "b", "c"]), ("", ("a", "b", "c")), (RING, RING), ("order", "abc")]
        for web, leaders in [(LINE, []), (RING, []), (RING, ["a"])]:
            for value in wrong + strange_values():
                self.assertIs(is_order(web, leaders, value), False, value)
            for value in WRONG_LISTS + [[], ()]:
                self.assertIs(is_order(web, leaders, ("order", value)), False, value)
                self.assertIs(is_order(web, leaders, ("ring", value)), False, value)

    def test_by_name_and_arguments_not_changed(self):
        leaders, thing = ["c", "a"], ("order", ["a", "c", "b"])
        self.assertTrue(is_order(thing=thing, leaders=leaders, web=RING))
        self.assertEqual((leaders, thing), (["c", "a"], ("order", ["a", "c", "b"])))


if __name__ == "__main__":
    unittest.main()

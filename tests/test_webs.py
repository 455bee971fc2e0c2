"""Points 3, 4, 10 and 11: webs, ways, rings and closed lots, by examples and wrong inputs."""

import copy
import unittest

from handlocks.errors import BadWeb, NoHanding, NoParty
from handlocks.webs import Web, closed_lots, farthest, is_tied, nearest, rings, ways
from tests.helper import LINE, RING, Equal, all_handings, strange_values

TWELVE = all_handings(["a", "b", "c", "d"])
SIX = ["f", "e", "d", "c", "b", "a"]


class RaisesTest(unittest.TestCase):
    def part_of(self, parties, handings):
        with self.assertRaises(BadWeb) as caught:
            Web(parties, handings)
        return caught.exception.part


class TestMakingWebs(RaisesTest):
    def test_properties_are_ascending_tuples(self):
        web = Web(["c", "a", "b"], [("c", "a"), ("a", "c"), ("a", "b")])
        self.assertEqual(web.parties, ("a", "b", "c"))
        self.assertEqual(web.handings, (("a", "b"), ("a", "c"), ("c", "a")))
        self.assertIs(type(web.parties), tuple)
        self.assertIs(type(web.handings), tuple)
        self.assertTrue(all(type(handing) is tuple for handing in web.handings))

    def test_ascending_is_the_order_of_texts(self):
        web = Web(["b", "ab", "a", "aa"], [("b", "a"), ("ab", "b"), ("a", "b"), ("aa", "b")])
        self.assertEqual(web.parties, ("a", "aa", "ab", "b"))
        self.assertEqual(web.handings, (("a", "b"), ("aa", "b"), ("ab", "b"), ("b", "a")))

    def test_properties_are_not_assigned(self):
        web = Web(["a", "b"], [("a", "b")])
        with self.assertRaises(AttributeError):
            web.parties = ("x", "y")
        with self.assertRaises(AttributeError):
            web.handings = (("b", "a"),)
        self.assertEqual((web.parties, web.handings), (("a", "b"), (("a", "b"),)))

    def test_parameters_by_name(self):
        self.assertEqual(Web(handings=[("a", "b")], parties=["a", "b"]), Web(["a", "b"], [("a", "b")]))

    def test_tuples_for_lists(self):
        self.assertEqual(Web(("b", "a"), (("a", "b"),)), Web(["a", "b"], [("a", "b")]))

    def test_number_of_parties(self):
        self.assertEqual(self.part_of([], [("a", "b")]), "parties")
        self.assertEqual(self.part_of(["a"], [("a", "b")]), "parties")
        self.assertEqual(Web(["a", "b"], [("a", "b")]).parties, ("a", "b"))
        self.assertEqual(Web(SIX, [("a", "b")]).parties, ("a", "b", "c", "d", "e", "f"))
        self.assertEqual(self.part_of(SIX + ["g"], [("a", "b")]), "parties")

    def test_number_of_handings(self):
        self.assertEqual(self.part_of(["a", "b"], []), "handings")
        self.assertEqual(len(Web(list("abcd"), TWELVE).handings), 12)
        self.assertEqual(len(Web(SIX, TWELVE).handings), 12)
        self.assertEqual(self.part_of(list("abcde"), TWELVE + [("a", "e")]), "handings")
        self.assertEqual(self.part_of(list("abcdef"), all_handings("abcdef")), "handings")

    def test_names(self):
        for name in ["a", "z", "abcdef", "zzzzzz", "mid"]:
            other = "b" if name == "a" else "a"
            self.assertEqual(Web([name, other], [(name, other)]).parties, tuple(sorted([name, other])))
        wrong = ["", "abcdefg", "A", "aB", "a b", " a", "a\n", "a1", "1", "a_", "a-", "\u00e4", "\u00df", "`", "{",
                 None, True, False, 0, 1, b"b", ["b"], ("b",), {"b": 1}, LINE, NoParty("b")]
        for name in wrong:
            self.assertEqual(self.part_of(["a", name], [("a", "b")]), "parties", name)
            self.assertEqual(self.part_of([name, "a"], [("a", "b")]), "parties", name)

    def test_names_twice(self):
        self.assertEqual(self.part_of(["a", "a"], [("a", "b")]), "parties")
        self.assertEqual(self.part_of(["a", "b", "a"], [("a", "b")]), "parties")
        self.assertEqual(self.part_of(("a", "b", "a"), [("a", "b")]), "parties")

    def test_what_is_no_list_of_parties(self):
        for value in strange_values() + ["ab", {"a": 1, "b": 2}]:
            self.assertEqual(self.part_of(value, [("a", "b")]), "parties", value)

    def test_handings_that_are_none(self):
        wrong = [("a", "a"), ("a", "x"), ("x", "a"), ["a", "b"], "ab", ("a",), ("a", "b", "c"), ("a", None), (True, "a"),
                 ("a", 1), (["a"], "b"), ("a", ("b",)), {"a": "b"}, (), ("", "a"), ("A", "b"), (LINE, "a"), ("a", LINE)]
        for handing in wrong + strange_values():
            self.assertEqual(self.part_of(["a", "b", "c"], [handing]), "handings", handing)
            self.assertEqual(self.part_of(["a", "b", "c"], [("a", "b"), handing]), "handings", handing)

    def test_handings_twice(self):
        self.assertEqual(self.part_of(["a", "b"], [("a", "b"), ("a", "b")]), "handings")
        self.assertEqual(self.part_of(["a", "b"], [("a", "b"), ("b", "a"), ("a", "b")]), "handings")
        self.assertEqual(len(Web(["a", "b"], [("a", "b"), ("b", "a")]).handings), 2)

    def test_what_is_no_list_of_handings(self):
        for value in strange_values() + [("a", "b"), {("a", "b"): 1}]:
            self.assertEqual(self.part_of(["a", "b"], value), "handings", value)

    def test_parties_come_ahead_of_handings(self):
        self.assertEqual(self.part_of(["a"], []), "parties")
        self.assertEqual(self.part_of(None, None), "parties")
        self.assertEqual(self.part_of(["a", "b"], None), "handings")

    def test_arguments_are_copied_and_not_changed(self):
        parties, handings = ["b", "a"], [("b", "a"), ("a", "b")]
        web = Web(parties, handings)
        self.assertEqual((parties, handings), (["b", "a"], [("b", "a"), ("a", "b")]))
        parties.append("c")
        handings.clear()
        self.assertEqual((web.parties, web.handings), (("a", "b"), (("a", "b"), ("b", "a"))))


class TestEquality(unittest.TestCase):
    def test_equal_by_both_properties(self):
        web = Web(["a", "b", "c"], [("a", "b"), ("b", "c")])
        self.assertTrue(web == Web(("c", "b", "a"), (("b", "c"), ("a", "b"))))
        self.assertFalse(web != Web(("c", "b", "a"), (("b", "c"), ("a", "b"))))
        self.assertTrue(web != Web(["a", "b", "c", "d"], [("a", "b"), ("b", "c")]))
        self.assertTrue(web != Web(["a", "b", "c"], [("a", "b"), ("c", "b")]))
        self.assertTrue(web != Web(["a", "b", "c"], [("a", "b")]))

    def test_equal_to_no_value_of_another_kind(self):
        values = strange_values() + [(LINE.parties, LINE.handings), [LINE.parties, LINE.handings], LINE.handings, object()]
        for value in values:
            self.assertFalse(LINE == value, value)
            self.assertTrue(LINE != value, value)
            self.assertFalse(value == LINE, value)
        self.assertFalse(LINE == Equal())

    def test_not_iterated_over(self):
        for use in (iter, list, tuple, sorted, len, lambda web: "a" in web, lambda web: web[0], lambda web: [*web]):
            with self.assertRaises(TypeError):
                use(LINE)


class TestWebMethods(unittest.TestCase):
    def setUp(self):
        self.web = Web(list("abcd"), [("c", "a"), ("a", "c"), ("b", "a"), ("a", "b")])

    def test_ins_and_outs(self):
        self.assertEqual(self.web.ins("a"), (("b", "a"), ("c", "a")))
        self.assertEqual(self.web.outs("a"), (("a", "b"), ("a", "c")))
        self.assertEqual(self.web.ins("b"), (("a", "b"),))
        self.assertEqual(self.web.outs("c"), (("c", "a"),))
        self.assertEqual((self.web.ins("d"), self.web.outs("d")), ((), ()))
        self.assertEqual((self.web.ins(party="c"), self.web.outs(party="c")), ((("a", "c"),), (("c", "a"),)))

    def test_ins_and_outs_of_no_party(self):
        for method in (self.web.ins, self.web.outs):
            for value in strange_values() + ["e", ("a", "b"), ["a"], "ab"]:
                with self.assertRaises(NoParty) as caught:
                    method(value)
                self.assertEqual(caught.exception.party, value)
                self.assertIs(type(caught.exception.party), type(value))

    def test_what_an_error_holds_is_copied(self):
        value = ["a"]
        with self.assertRaises(NoParty) as caught:
            self.web.ins(value)
        value.append("b")
        self.assertEqual(caught.exception.party, ["a"])

    def test_with_handing(self):
        more = self.web.with_handing(("b", "c"))
        self.assertEqual(more, Web(list("abcd"), list(self.web.handings) + [("b", "c")]))
        self.assertEqual(more.handings, (("a", "b"), ("a", "c"), ("b", "a"), ("b", "c"), ("c", "a")))
        self.assertEqual(len(self.web.handings), 4)
        self.assertEqual(self.web.with_handing(handing=("b", "c")), more)

    def test_with_handing_of_no_new_handing(self):
        wrong = [("a", "b"), ("a", "a"), ("a", "e"), ("e", "a"), ["b", "c"], "bc", ("b",), ("b", "c", "d"), (("b", "c"),),
                 ("b", None), (["b"], "c"), (self.web, "c")]
        for value in wrong + strange_values():
            with self.assertRaises(NoHanding) as caught:
                self.web.with_handing(value)
            self.assertEqual(caught.exception.handing, value)

    def test_with_handing_beyond_twelve(self):
        full = Web(list("abcde"), TWELVE)
        with self.assertRaises(BadWeb) as caught:
            full.with_handing(("a", "e"))
        self.assertEqual(caught.exception.part, "handings")
        for handing in [("a", "b"), ("a", "f"), None]:
            with self.assertRaises(NoHanding):
                full.with_handing(handing)
        self.assertEqual(full, Web(list("abcde"), TWELVE))
        self.assertEqual(Web(list("abcde"), TWELVE[1:]).with_handing(TWELVE[0]), full)

    def test_without(self):
        less = self.web.without(("a", "c"))
        self.assertEqual(less.handings, (("a", "b"), ("b", "a"), ("c", "a")))
        self.assertEqual(less.parties, self.web.parties)
        self.assertEqual(less.with_handing(("a", "c")), self.web)
        self.assertEqual(self.web.without(handing=("a", "c")), less)

    def test_without_what_is_not_there(self):
        wrong = [("b", "c"), ("a", "a"), ("a", "e"), ["a", "b"], "ab", ("a",), ("a", "b", "c"), (("a", "b"),)]
        for value in wrong + strange_values():
            with self.assertRaises(NoHanding) as caught:
                self.web.without(value)
            self.assertEqual(caught.exception.handing, value)

    def test_without_the_last_handing(self):
        one = Web(["a", "b"], [("a", "b")])
        with self.assertRaises(BadWeb) as caught:
            one.without(("a", "b"))
        self.assertEqual(caught.exception.part, "handings")
        with self.assertRaises(NoHanding):
            one.without(("b", "a"))
        self.assertEqual(one, Web(["a", "b"], [("a", "b")]))

    def test_turned(self):
        self.assertEqual(LINE.turned(), Web(["a", "b", "c"], [("b", "a"), ("c", "b")]))
        self.assertEqual(LINE.turned().turned(), LINE)
        self.assertEqual(LINE.turned().handings, (("b", "a"), ("c", "b")))
        both = Web(["a", "b"], [("a", "b"), ("b", "a")])
        self.assertEqual(both.turned(), both)
        self.assertEqual(len(Web(SIX, TWELVE).turned().handings), 12)


class TestWays(unittest.TestCase):
    def test_ways(self):
        web = Web(list("abcd"), [("a", "b"), ("b", "d"), ("a", "c"), ("c", "d"), ("a", "d"), ("b", "c")])
        self.assertEqual(ways(web, "a", "d"), [("a", "d"), ("a", "b", "d"), ("a", "c", "d"), ("a", "b", "c", "d")])
        self.assertEqual((nearest(web, "a", "d"), farthest(web, "a", "d")), (1, 3))
        self.assertEqual((ways(web, "d", "a"), nearest(web, "d", "a"), farthest(web, "d", "a")), ([], None, None))

    def test_from_a_party_to_itself(self):
        for web in (LINE, RING):
            for party in web.parties:
                self.assertEqual(ways(web, party, party), [(party,)])
                self.assertEqual((nearest(web, party, party), farthest(web, party, party)), (0, 0))

    def test_in_a_ring(self):
        self.assertEqual(ways(RING, "a", "c"), [("a", "b", "c")])
        self.assertEqual(ways(RING, "c", "b"), [("c", "a", "b")])
        self.assertEqual((nearest(RING, "c", "b"), farthest(RING, "c", "b")), (2, 2))

    def test_parameters_by_name(self):
        self.assertEqual(ways(end="c", start="a", web=LINE), [("a", "b", "c")])
        self.assertEqual(nearest(end="c", start="a", web=LINE), 2)
        self.assertEqual(farthest(end="c", start="a", web=LINE), 2)

    def test_errors_in_the_order_of_the_parameters(self):
        for use in (ways, nearest, farthest):
            for value in strange_values() + ["d", LINE.handings]:
                if not isinstance(value, Web):
                    with self.assertRaises(BadWeb) as caught:
                        use(value, None, None)
                    self.assertEqual(caught.exception.part, "web")
                with self.assertRaises(NoParty) as caught:
                    use(LINE, value, "none")
                self.assertEqual(caught.exception.party, value)
                with self.assertRaises(NoParty) as caught:
                    use(LINE, "a", value)
                self.assertEqual(caught.exception.party, value)

    def test_new_each_time(self):
        first = ways(LINE, "a", "c")
        first.clear()
        self.assertEqual(ways(LINE, "a", "c"), [("a", "b", "c")])


class TestRings(unittest.TestCase):
    def test_rings(self):
        self.assertEqual(rings(LINE), [])
        self.assertEqual(rings(RING), [("a", "b", "c")])
        self.assertEqual(rings(RING.turned()), [("a", "c", "b")])
        self.assertEqual(rings(Web(["b", "a"], [("b", "a"), ("a", "b")])), [("a", "b")])
        web = Web(list("abc"), all_handings("abc"))
        self.assertEqual(rings(web), [("a", "b"), ("a", "c"), ("b", "c"), ("a", "b", "c"), ("a", "c", "b")])

    def test_a_ring_of_six(self):
        web = Web(SIX, list(zip(SIX, SIX[1:] + SIX[:1])))
        self.assertEqual(rings(web), [("a", "f", "e", "d", "c", "b")])

    def test_rings_behind_one_another(self):
        web = Web(list("abcd"), [("c", "d"), ("d", "c"), ("a", "b"), ("b", "a"), ("a", "c")])
        self.assertEqual(rings(web), [("a", "b"), ("c", "d")])


class TestTiedAndClosed(unittest.TestCase):
    def test_is_tied(self):
        self.assertIs(is_tied(RING), True)
        self.assertIs(is_tied(LINE), False)
        self.assertIs(is_tied(Web(["a", "b"], [("a", "b"), ("b", "a")])), True)
        self.assertIs(is_tied(Web(["a", "b"], [("a", "b")])), False)
        self.assertIs(is_tied(Web(list("abcd"), RING.handings)), False)
        self.assertIs(is_tied(Web(list("abcd"), [("a", "b"), ("b", "a"), ("c", "d"), ("d", "c")])), False)

    def test_closed_lots(self):
        self.assertEqual(closed_lots(RING), [])
        self.assertEqual(closed_lots(LINE), [("c",)])
        self.assertEqual(closed_lots(Web(list("abcd"), RING.handings)), [("d",), ("a", "b", "c")])
        pairs = Web(list("abcd"), [("a", "b"), ("b", "a"), ("c", "d"), ("d", "c")])
        self.assertEqual(closed_lots(pairs), [("a", "b"), ("c", "d")])
        self.assertEqual(closed_lots(pairs.with_handing(("a", "c"))), [("c", "d")])
        self.assertEqual(closed_lots(Web(SIX, [("a", "b")])), [("b",), ("c",), ("d",), ("e",), ("f",)])

    def test_what_is_no_web(self):
        for use in (rings, is_tied, closed_lots):
            for value in strange_values():
                if not isinstance(value, Web):
                    with self.assertRaises(BadWeb) as caught:
                        use(value)
                    self.assertEqual(caught.exception.part, "web")

    def test_by_name_new_and_the_web_unchanged(self):
        for use in (rings, closed_lots):
            for web in (LINE, RING, Web(list("abcd"), RING.handings)):
                before = copy.deepcopy(web)
                result = use(web=web)
                again = list(result)
                result.append("z")
                self.assertEqual(use(Web(tuple(web.parties), list(web.handings))), again)
                self.assertEqual(web, before)
        self.assertIs(is_tied(web=RING), True)


if __name__ == "__main__":
    unittest.main()

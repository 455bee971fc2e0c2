"""Points 40 and 41: courses, what keepers must show, what is taken and who loses, by examples and wrong inputs."""

import copy
import unittest

from handlocks.courses import is_course, losers, must_show, taken
from handlocks.deals import Deal
from handlocks.errors import BadCourse, BadDeal, BadKeepers, NoParty
from handlocks.webs import Web
from tests.helper import LINE, RING, all_handings, all_lots, deal_of, lists_and_no_lists, strange_values

AB, BC, CA = ("a", "b"), ("b", "c"), ("c", "a")
ALL = ["a", "b", "c"]
# The word of a comes along the ring: to (c, a) at tick 0, to (b, c) at 2, to (a, b) at 4.
DEAL = Deal(RING, ["a"], {AB: [9, 9, 4], BC: [9, 2, 9], CA: [0, 9, 9]}, 2)
SLOW = Deal(RING, ["a"], {AB: [0, 0, 9], BC: [0, 9, 0], CA: [9, 0, 0]}, 2)
KEPT = [(0, CA, ("a",)), (2, BC, ("c", "a")), (4, AB, ("b", "c", "a"))]

# The word of d comes to (a, b) in two ways, by (b, d) or by (b, c) and (c, d).
BD, CD, CB = ("b", "d"), ("c", "d"), ("c", "b")
FORK = Web(list("abcd"), [AB, BC, BD, CD])
FORKED = deal_of(FORK, ["d"], [9, 9, 9, 9], 1)

# Three leaders who hand to one another, each to each.
THREE = deal_of(Web(ALL, all_handings("abc")), ALL, [3, 3, 3], 1)


class CourseTest(unittest.TestCase):
    def holds(self, deal, keepers, laying, shows):
        self.assertIs(is_course(deal, keepers, (laying, shows)), True)

    def fails(self, deal, keepers, laying, shows):
        self.assertIs(is_course(deal, keepers, (laying, shows)), False)


class TestIsCourse(CourseTest):
    def test_all_keepers(self):
        self.holds(DEAL, ALL, ALL, KEPT)
        for lot in all_lots(ALL):
            self.holds(DEAL, list(lot), ALL, KEPT)
        self.fails(DEAL, ALL, ALL, [])
        for at in range(3):
            self.fails(DEAL, ALL, ALL, KEPT[:at] + KEPT[at + 1:])

    def test_no_keepers(self):
        self.holds(DEAL, [], ALL, [])
        self.holds(DEAL, [], ["c"], [])
        for lot in ([], [0], [1], [2], [0, 1], [0, 2], [1, 2], [0, 1, 2]):
            self.holds(DEAL, [], ALL, [KEPT[at] for at in lot])
        self.holds(DEAL, [], ["c", "b", "a"], [(0, AB, ("b", "c", "a")), (0, BC, ("c", "a")), (0, CA, ("a",))])

    def test_nobody_lays(self):
        for lot in all_lots(ALL):
            self.holds(DEAL, lot, [], [])
        self.fails(DEAL, [], [], [(0, CA, ("a",))])

    def test_the_laying_is_one_of_the_keepers(self):
        self.holds(DEAL, ["b"], ["a", "b"], [])
        self.fails(DEAL, ["b"], ["b", "a"], [])
        self.holds(DEAL, ["a", "c"], ["b", "a"], [])
        self.fails(DEAL, ["c"], ["c", "b"], [])
        self.holds(DEAL, ["a"], ["a", "b"], [])
        self.fails(DEAL, ["b"], ["c", "b"], [])
        self.fails(DEAL.with_leaders(["b"]), ["a"], ["a", "c"], [])
        self.holds(DEAL.with_leaders(["b"]), ["b"], ["b"], [])
        self.holds(DEAL.with_leaders(["b"]), ["b"], ["b", "a"], [(0, AB, ("b",))])

    def test_what_is_shown_is_laid(self):
        self.holds(DEAL, [], ["c"], [(0, CA, ("a",))])
        self.fails(DEAL, [], ["a", "b"], [(0, CA, ("a",))])
        self.fails(DEAL, [], ["a", "c"], [(1, BC, ("c", "a"))])

    def test_a_show_at_its_last_tick_and_one_later(self):
        self.fails(DEAL, [], ALL, [(1, CA, ("a",))])
        self.holds(DEAL, [], ALL, [(2, BC, ("c", "a"))])
        self.fails(DEAL, [], ALL, [(3, BC, ("c", "a"))])
        self.holds(DEAL, [], ALL, [(4, AB, ("b", "c", "a"))])
        self.fails(DEAL, [], ALL, [(5, AB, ("b", "c", "a"))])
        longest = deal_of(RING, ["a"], [99, 0, -1], 5)
        self.holds(longest, [], ALL, [(99, CA, ("a",))])
        self.fails(longest, [], ALL, [(100, CA, ("a",))])
        self.fails(longest, [], ALL, [(10 ** 6, CA, ("a",))])
        self.holds(longest, [], ALL, [(0, BC, ("c", "a"))])
        self.fails(longest, [], ALL, [(1, BC, ("c", "a"))])
        self.fails(longest, [], ALL, [(0, AB, ("b", "c", "a"))])

    def test_the_length_of_the_trail_counts(self):
        deal = Deal(FORK, ["d"], {AB: [0, 3, 5, 0], BC: [0] * 4, BD: [0] * 4, CD: [0] * 4}, 1)
        self.holds(deal, [], list("abcd"), [(3, AB, ("b", "d"))])
        self.fails(deal, [], list("abcd"), [(4, AB, ("b", "d"))])
        self.holds(deal, [], list("abcd"), [(5, AB, ("b", "c", "d"))])
        self.fails(deal, [], list("abcd"), [(6, AB, ("b", "c", "d"))])

    def test_trails_are_those_of_the_handing(self):
        for trail in [("a",), ("c", "a"), ("b",), ("b", "c"), ("b", "a"), ("b", "c", "a", "b"), ("b", "c", "b", "a"), (),
                      ("b", "c", "x"), ("x",), ("b", "c", "c", "a"), "bca", ["b", "c", "a"], None, {"b": 1}, (("b", "c", "a"),)]:
            self.fails(DEAL, [], ALL, [(0, AB, trail)])
        self.holds(DEAL, [], ALL, [(0, AB, ("b", "c", "a"))])
        self.fails(deal_of(LINE, ["a"], [9, 9, 9], 1), [], ALL, [(0, AB, ("b", "a"))])
        both = deal_of(Web(ALL, [AB, ("b", "a")]), ["a"], [9, 9, 9], 1)
        self.holds(both, [], ALL, [(0, ("b", "a"), ("a",))])
        self.fails(both, [], ALL, [(0, ("b", "a"), ("a", "b", "a"))])

    def test_a_taker_that_is_the_leader(self):
        self.holds(DEAL, ["a"], ALL, [(0, CA, ("a",))])
        self.fails(DEAL, ["a"], ALL, [])
        self.fails(SLOW, ["a"], ALL, [(1, CA, ("a",))])
        self.holds(SLOW, ["b", "c"], ALL, [(1, CA, ("a",)), (3, BC, ("c", "a")), (5, AB, ("b", "c", "a"))])

    def test_no_word_twice_at_one_handing(self):
        both = [(0, AB, ("b", "c", "d")), (1, AB, ("b", "d"))]
        for show in both:
            self.holds(FORKED, [], list("abcd"), [show])
        self.fails(FORKED, [], list("abcd"), both)
        self.fails(FORKED, [], list("abcd"), [(0, AB, ("b", "d")), (1, AB, ("b", "d"))])
        self.fails(FORKED, [], list("abcd"), [(0, AB, ("b", "c", "d")), (0, AB, ("b", "d"))])

    def test_words_of_several_leaders_at_one_handing(self):
        self.holds(THREE, [], ALL, [(0, AB, ("b",)), (0, AB, ("b", "a")), (0, AB, ("b", "a", "c"))])
        self.fails(THREE, [], ALL, [(0, AB, ("b",)), (0, AB, ("b", "a")), (0, AB, ("b", "a", "c")), (0, AB, ("b", "c"))])
        self.holds(THREE, [], ALL, [(0, AB, ("b", "a")), (0, BC, ("c", "a")), (0, CB, ("b", "a"))])

    def test_ascending_and_different(self):
        shows = [(0, BC, ("c", "a")), (0, CA, ("a",)), (1, AB, ("b", "c", "a"))]
        self.holds(DEAL, [], ALL, shows)
        for wrong in (shows[::-1], [shows[1], shows[0]], [shows[2], shows[0]], [shows[0], shows[0]], shows + shows[:1]):
            self.fails(DEAL, [], ALL, wrong)
        shows = [(0, AB, ("b", "a")), (0, AB, ("b", "c"))]
        self.holds(THREE, [], ALL, shows)
        self.fails(THREE, [], ALL, shows[::-1])

    def test_tuples_for_lists(self):
        self.holds(DEAL, tuple(ALL), tuple(ALL), tuple(KEPT))
        self.holds(DEAL, (), (), ())
        self.holds(DEAL, ["a"], tuple(ALL), KEPT[:1])

    def test_the_order_of_the_keepers_means_nothing(self):
        self.holds(DEAL, ["c", "a", "b"], ALL, KEPT)
        self.fails(DEAL, ["c", "a", "b"], ALL, KEPT[:2])

    def test_one_and_three_leaders(self):
        start = [(0, handing, (handing[1],)) for handing in THREE.web.handings]
        self.fails(THREE, ALL, ALL, start)
        answered = []
        for giver, taker in THREE.web.handings:
            answered += [(1, (giver, taker), (taker, other)) for other in ALL if other != taker]
        self.holds(THREE, ALL, ALL, sorted(start + answered))
        self.fails(THREE, ALL, ALL, sorted(start + answered[1:]))
        self.holds(THREE.with_leaders(["b"]), [], ALL, [(0, AB, ("b",))])
        self.fails(THREE.with_leaders(["b"]), ["b"], ALL, [(0, AB, ("b",))])
        self.holds(THREE.with_leaders(["b"]), ["b"], ALL, [(0, AB, ("b",)), (0, CB, ("b",))])


class TestKnown(CourseTest):
    def test_a_keeper_must_have_shown_it_at_an_earlier_tick(self):
        deal = deal_of(RING, ["a"], [9, 9, 9], 2)
        before = [(0, CA, ("a",)), (2, BC, ("c", "a"))]
        self.holds(deal, ["c"], ALL, before + [(3, AB, ("b", "c", "a"))])
        self.fails(deal, ["c"], ALL, sorted(before + [(2, AB, ("b", "c", "a"))]))
        self.fails(deal, ["c"], ALL, [(0, AB, ("b", "c", "a"))])
        self.holds(deal, ["c"], ALL, before + [(9, AB, ("b", "c", "a"))])
        self.holds(deal, ["a"], ALL, [(0, CA, ("a",)), (1, AB, ("b", "c", "a"))])
        self.fails(deal, ["a"], ALL, sorted([(0, CA, ("a",)), (0, AB, ("b", "c", "a"))]))

    def test_the_word_of_a_keeper_that_it_did_not_show(self):
        deal = deal_of(RING, ["a"], [9, 9, 9], 2).with_last(CA, 0, -1)
        self.holds(deal, [], ALL, [(3, AB, ("b", "c", "a"))])
        self.fails(deal, ["a"], ALL, [(3, AB, ("b", "c", "a"))])
        self.fails(deal, ["a"], ALL, [(3, BC, ("c", "a"))])
        self.holds(deal, ["b"], ALL, [(3, BC, ("c", "a")), (5, AB, ("b", "c", "a"))])

    def test_free_parties_tell_one_another(self):
        deal = deal_of(RING, ["a"], [9, 9, 9], 2)
        for lot in ([], ["b"]):
            self.holds(deal, lot, ALL, [(0, BC, ("c", "a")), (2, AB, ("b", "c", "a"))])
        self.holds(deal, [], ALL, [(0, AB, ("b", "c", "a"))])

    def test_whoever_hands_to_it_may_have_seen_it(self):
        # What c shows to b is known to b and d alike, for free parties tell one another.
        web = Web(list("abcd"), [BC, CA, ("d", "b"), ("d", "c"), ("a", "d")])
        deal = deal_of(web, ["a"], [9, 9, 9, 9], 1).with_last(("d", "c"), 1, 0)
        shows = [(0, CA, ("a",)), (1, BC, ("c", "a"))]
        self.holds(deal, ["c"], list("dabc"), sorted(shows + [(2, ("a", "d"), ("d", "c", "a"))]))
        self.holds(deal, ["c"], list("dabc"), sorted(shows + [(2, ("d", "b"), ("b", "c", "a"))]))
        self.fails(deal, ["c"], list("dabc"), sorted(shows + [(1, ("a", "d"), ("d", "c", "a"))]))

    def test_just_the_rest_of_the_trail_must_have_been_shown(self):
        web = Web(list("abcd"), [AB, BC, BD, CD, ("d", "a"), CA])
        deal = deal_of(web, ["d"], [9, 9, 9, 9], 1)
        shows = [(0, BD, ("d",)), (1, AB, ("b", "d"))]
        self.holds(deal, ["b"], list("acdb"), sorted(shows + [(2, ("d", "a"), ("a", "b", "d"))]))
        self.fails(deal, ["b"], list("acdb"), sorted(shows + [(2, ("d", "a"), ("a", "b", "c", "d"))]))
        self.holds(deal, [], list("acdb"), sorted(shows + [(2, ("d", "a"), ("a", "b", "c", "d"))]))

    def test_a_keeper_behind_a_free_party(self):
        deal = deal_of(RING, ["a"], [9, 9, 9], 1)
        self.fails(deal, ["a"], ["a", "b"], [(5, AB, ("b", "c", "a"))])
        self.holds(deal, ["a"], ALL, [(0, CA, ("a",)), (5, AB, ("b", "c", "a"))])


class TestOfAnyValue(CourseTest):
    def test_strange_values(self):
        for value in strange_values() + [DEAL, RING, "ab", {"a": [], "b": []}]:
            self.assertIs(is_course(DEAL, [], value), False)
            self.assertIs(is_course(DEAL, ALL, value), False)

    def test_no_pairs(self):
        for value in [[ALL, KEPT], (ALL,), (ALL, KEPT, None), (ALL, KEPT, []), [(ALL, KEPT)], ((ALL, KEPT),), {0: ALL, 1: KEPT},
                      KEPT, ALL, (KEPT, ALL)]:
            self.assertIs(is_course(DEAL, [], value), False)

    def test_no_layings_and_no_lists_of_shows(self):
        for value in lists_and_no_lists() + ["abc", {"a": 1}, ["a", "b", "a"], ["d"], ["a", True], [["a"]]]:
            self.fails(DEAL, [], value, [])
            self.fails(DEAL, [], ALL, value)

    def test_what_only_looks_like_a_show(self):
        self.holds(DEAL, [], ALL, [(0, CA, ("a",))])
        wrong = [[0, CA, ("a",)], (0, CA), (0, CA, ("a",), 0), (0, ["c", "a"], ("a",)), (0, CA, ["a"]), (0, CA, "a"), (0, "ca", ("a",)),
                 (False, CA, ("a",)), (None, CA, ("a",)), ("0", CA, ("a",)), (-1, CA, ("a",)), ([0], CA, ("a",)), (CA, 0, ("a",)),
                 (0, ("a",), CA), (0, ("a", "c"), ("a",)), (0, ("c", "a", "b"), ("a",)), (0, None, ("a",)), (0, CA, None),
                 (0, CA, ()), (0, CA, (None,)), (0, CA, (("a",),)), (0, CA, (["a"],)), (0, (["c"], "a"), ("a",)), {0: CA},
                 (0, CA, {"a": 1}), (10 ** 999, CA, ("a",)), (-10 ** 999, CA, ("a",)), (0, CA, (DEAL,)), (0, DEAL, ("a",)),
                 (DEAL, CA, ("a",)), (0, (RING, "a"), ("a",))]
        for value in wrong + strange_values():
            self.fails(DEAL, [], ALL, [value])
            self.fails(DEAL, [], ALL, (value,))
            self.fails(DEAL, [], ALL, [(0, BC, ("c", "a")), value])
            self.fails(DEAL, [], ALL, [value, (4, AB, ("b", "c", "a"))])
        self.holds(deal_of(RING, ["a"], [9, 9, 9], 1), [], ALL, [(1, CA, ("a",))])
        self.fails(deal_of(RING, ["a"], [9, 9, 9], 1), [], ALL, [(True, CA, ("a",))])

    def test_errors_in_the_order_of_the_parameters(self):
        for value in strange_values() + [RING]:
            with self.assertRaises(BadDeal) as caught:
                is_course(value, None, None)
            self.assertEqual(caught.exception.part, "deal")
        for value in lists_and_no_lists() + ["abc", {"a": 1}, ["a", "a"], ("a", "b", "a"), ["d"], ["a", True], [["a"]]]:
            with self.assertRaises(BadKeepers) as caught:
                is_course(DEAL, value, None)
            self.assertTrue(str(caught.exception))

    def test_by_name_and_arguments_not_changed(self):
        keepers, thing = ["c", "a", "b"], (list(ALL), list(KEPT))
        before = copy.deepcopy((keepers, thing))
        self.assertTrue(is_course(thing=thing, keepers=keepers, deal=DEAL))
        self.assertEqual((keepers, thing), before)


class TestMustShow(CourseTest):
    def must(self, deal, laying, shows, party):
        return must_show(deal, (laying, shows), party)

    def test_a_leader_shows_its_word_at_all_its_ins_at_tick_0(self):
        deal = Deal(Web(ALL, [CA, ("b", "a"), AB]), ["a"], {CA: [0, 0, 0], ("b", "a"): [5, 0, 0], AB: [0, 0, 0]}, 1)
        self.assertEqual(self.must(deal, ALL, [], "a"), [(0, ("b", "a"), ("a",)), (0, CA, ("a",))])
        self.assertEqual(self.must(deal, ["c", "b"], [], "a"), [(0, ("b", "a"), ("a",)), (0, CA, ("a",))])
        self.assertEqual(self.must(deal, ["c"], [], "a"), [])
        self.assertEqual(self.must(deal, ["b", "a"], [], "a"), [])
        self.assertEqual(self.must(deal.with_last(CA, 0, -1), ALL, [], "a"), [])
        self.assertEqual(self.must(deal.with_last(("b", "a"), 0, -1), ALL, [], "a"), [])
        self.assertEqual(self.must(deal.with_last(CA, 1, -1).with_last(CA, 2, -1), ALL, [], "a"),
                         [(0, ("b", "a"), ("a",)), (0, CA, ("a",))])

    def test_a_leader_without_ins_shows_nothing(self):
        self.assertEqual(self.must(deal_of(LINE, ["a"], [9, 9, 9], 1), ALL, [], "a"), [])
        self.holds(deal_of(LINE, ["a"], [9, 9, 9], 1), ALL, ALL, [])

    def test_who_is_no_leader_shows_nothing_unasked(self):
        self.assertEqual(self.must(DEAL, ALL, [], "b"), [])
        self.assertEqual(self.must(DEAL, ALL, [], "c"), [])

    def test_an_answer_comes_wait_ticks_later(self):
        for wait in (1, 2, 5):
            deal = deal_of(RING, ["a"], [20, 20, 20], wait)
            self.assertEqual(self.must(deal, ALL, [(3, CA, ("a",))], "c"), [(3 + wait, BC, ("c", "a"))])
            self.assertEqual(self.must(deal, ALL, [(0, BC, ("c", "a"))], "b"), [(wait, AB, ("b", "c", "a"))])

    def test_an_answer_in_time_and_one_tick_too_late(self):
        self.assertEqual(self.must(SLOW, ALL, [(7, CA, ("a",))], "c"), [(9, BC, ("c", "a"))])
        self.assertEqual(self.must(SLOW, ALL, [(8, CA, ("a",))], "c"), [])
        late = deal_of(RING, ["a"], [99, 99, 99], 1)
        self.assertEqual(self.must(late, ALL, [(98, CA, ("a",))], "c"), [(99, BC, ("c", "a"))])
        self.assertEqual(self.must(late, ALL, [(99, CA, ("a",))], "c"), [])
        self.assertEqual(self.must(late.with_last(BC, 1, -1), ALL, [(0, CA, ("a",))], "c"), [])

    def test_at_each_in_where_it_can(self):
        web = Web(list("abcd"), [CA, BC, ("d", "c"), ("a", "c")])
        deal = deal_of(web, ["a"], [9, 3, 9, 9], 1)
        shows = [(2, CA, ("a",))]
        self.assertEqual(self.must(deal, list("bdac"), shows, "c"),
                         [(3, ("a", "c"), ("c", "a")), (3, BC, ("c", "a")), (3, ("d", "c"), ("c", "a"))])
        self.assertEqual(self.must(deal, list("bc"), shows, "c"), [(3, BC, ("c", "a"))])
        self.assertEqual(self.must(deal.with_last(BC, 1, 2), list("bdac"), shows, "c"),
                         [(3, ("a", "c"), ("c", "a")), (3, ("d", "c"), ("c", "a"))])
        self.assertEqual(self.must(deal, list("c"), shows, "c"), [])

    def test_several_trails_at_one_tick(self):
        shows = [(2, BC, ("c", "d")), (2, BD, ("d",))]
        self.assertEqual(self.must(FORKED, list("abcd"), shows, "b"), [(3, AB, ("b", "c", "d"))])
        self.assertEqual(self.must(FORKED.with_last(AB, 2, 2), list("abcd"), shows, "b"), [(3, AB, ("b", "d"))])
        self.assertEqual(self.must(FORKED.with_last(AB, 1, 2), list("abcd"), shows, "b"), [(3, AB, ("b", "c", "d"))])
        self.assertEqual(self.must(FORKED.with_last(AB, 1, 2).with_last(AB, 2, 2), list("abcd"), shows, "b"), [])

    def test_least_as_a_tuple_and_not_the_shortest(self):
        web = Web(["a", "b", "c", "z"], [AB, BC, ("b", "z"), ("c", "z"), ("z", "c")])
        deal = deal_of(web, ["c"], [9, 9, 9, 9], 1)
        shows = [(0, BC, ("c",)), (0, ("b", "z"), ("z", "c"))]
        self.assertEqual(self.must(deal, ["a", "b"], shows, "b"), [(1, AB, ("b", "c"))])
        deal = deal_of(web, ["z"], [9, 9, 9, 9], 1)
        shows = [(0, BC, ("c", "z")), (0, ("b", "z"), ("z",))]
        self.assertEqual(self.must(deal, ["a", "b"], shows, "b"), [(1, AB, ("b", "c", "z"))])

    def test_different_ins_may_get_different_trails(self):
        web = Web(list("abcd"), [AB, CB, BC, BD, CD])
        deal = deal_of(web, ["d"], [9, 9, 9, 9], 1).with_last(CB, 2, 0)
        shows = [(0, BC, ("c", "d")), (0, BD, ("d",))]
        self.assertEqual(self.must(deal, list("abcd"), shows, "b"), [(1, AB, ("b", "c", "d")), (1, CB, ("b", "d"))])

    def test_not_where_the_word_was_shown_at_an_earlier_tick(self):
        shows = [(0, BD, ("d",)), (1, BC, ("c", "d"))]
        self.assertEqual(self.must(FORKED, list("abcd"), shows, "b"), [(1, AB, ("b", "d"))])
        shows = [(0, BC, ("c", "d")), (5, BD, ("d",))]
        self.assertEqual(self.must(FORKED, list("abcd"), shows, "b"), [(1, AB, ("b", "c", "d"))])

    def test_the_second_show_counts_where_the_first_came_too_late(self):
        deal = FORKED.with_last(AB, 1, 0)
        shows = [(0, BD, ("d",)), (4, BC, ("c", "d"))]
        self.assertEqual(self.must(deal, list("abcd"), shows, "b"), [(5, AB, ("b", "c", "d"))])

    def test_not_with_a_trail_in_which_it_stands(self):
        web = Web(ALL, [AB, ("b", "a"), BC, CA])
        deal = deal_of(web, ["c"], [9, 9, 9], 1)
        self.assertEqual(self.must(deal, ALL, [(0, ("b", "a"), ("a", "b", "c"))], "b"), [])
        self.assertEqual(self.must(deal, ALL, [(0, BC, ("c",))], "b"), [(1, AB, ("b", "c"))])
        shows = [(0, BC, ("c",)), (0, ("b", "a"), ("a", "b", "c"))]
        self.assertEqual(self.must(deal, ALL, sorted(shows), "b"), [(1, AB, ("b", "c"))])

    def test_not_its_own_word(self):
        self.assertEqual(self.must(DEAL, ALL, [(3, AB, ("b", "c", "a"))], "a"), [(0, CA, ("a",))])

    def test_a_leader_answers_to_the_words_of_others(self):
        deal = deal_of(RING, ["a", "c"], [9, 9, 9], 2)
        shows = [(0, CA, ("a",)), (1, AB, ("b", "c"))]
        self.assertEqual(self.must(deal, ALL, shows, "a"), [(0, CA, ("a",)), (3, CA, ("a", "b", "c"))])
        self.assertEqual(self.must(deal, ALL, shows, "c"), [(0, BC, ("c",)), (2, BC, ("c", "a"))])
        # Also a leader whose own word cannot be shown everywhere at tick 0.
        self.assertEqual(self.must(deal.with_last(CA, 0, -1), ALL, shows[1:], "a"), [(3, CA, ("a", "b", "c"))])

    def test_words_of_different_leaders_at_one_tick(self):
        deal = deal_of(Web(list("abcd"), [AB, BC, BD]), ["c", "d"], [9, 9, 9, 9], 1)
        shows = [(0, BC, ("c",)), (0, BD, ("d",))]
        self.assertEqual(self.must(deal, list("ab"), shows, "b"), [(1, AB, ("b", "c")), (1, AB, ("b", "d"))])

    def test_by_what_others_do_alone(self):
        # What the party itself has shown changes nothing, and it need not lay to answer at what is laid.
        for own in ([], [(0, BC, ("c", "a"))], [(1, BC, ("c", "a"))], [(2, BC, ("c", "a"))]):
            self.assertEqual(self.must(DEAL, ALL, sorted(own + [(0, CA, ("a",))]), "c"), [(2, BC, ("c", "a"))])
            self.assertEqual(self.must(DEAL, ALL, own, "c"), [])
        self.assertEqual(self.must(DEAL, ["c"], [], "a"), [(0, CA, ("a",))])

    def test_tuples_by_name_and_new_each_time(self):
        course = (tuple(ALL), tuple(KEPT))
        told = must_show(party="b", course=course, deal=DEAL)
        self.assertEqual(told, [(4, AB, ("b", "c", "a"))])
        self.assertIs(type(told), list)
        told.append(None)
        self.assertEqual(must_show(DEAL, (ALL, KEPT), "b"), [(4, AB, ("b", "c", "a"))])

    def test_errors_in_the_order_of_the_parameters(self):
        for value in strange_values() + [RING]:
            with self.assertRaises(BadDeal) as caught:
                must_show(value, None, None)
            self.assertEqual(caught.exception.part, "deal")
        for value in strange_values() + [[ALL, KEPT], (ALL, KEPT[::-1]), (ALL, [(1, CA, ("a",))]), ([], KEPT), (ALL, KEPT, 0)]:
            for party in ("a", "z", None):
                with self.assertRaises(BadCourse) as caught:
                    must_show(DEAL, value, party)
                self.assertTrue(str(caught.exception))
        for value in strange_values() + ["d", ("a",), ["a"], DEAL]:
            with self.assertRaises(NoParty) as caught:
                must_show(DEAL, (ALL, KEPT), value)
            self.assertEqual(caught.exception.party, value)


class TestTakenAndLosers(CourseTest):
    def test_taken(self):
        self.assertEqual(taken(DEAL, (ALL, KEPT)), (AB, BC, CA))
        self.assertEqual(taken(DEAL, (ALL, KEPT[:2])), (BC, CA))
        self.assertEqual(taken(DEAL, (ALL, KEPT[2:])), (AB,))
        self.assertEqual(taken(DEAL, (ALL, [])), ())
        self.assertEqual(taken(DEAL, ([], [])), ())
        self.assertEqual(taken(deal=DEAL, course=(tuple(ALL), tuple(KEPT))), (AB, BC, CA))

    def test_taken_with_the_words_of_all_leaders(self):
        words = [(0, AB, ("b",)), (1, AB, ("b", "a")), (2, AB, ("b", "c"))]
        self.assertEqual(taken(THREE, (ALL, words)), (AB,))
        for at in range(3):
            self.assertEqual(taken(THREE, (ALL, words[:at] + words[at + 1:])), ())
        self.assertEqual(taken(THREE.with_leaders(["a", "c"]), (ALL, words[1:])), (AB,))
        self.assertEqual(taken(THREE.with_leaders(["a"]), (ALL, words[1:2])), (AB,))

    def test_losers(self):
        self.assertEqual(losers(DEAL, (ALL, KEPT)), ())
        self.assertEqual(losers(DEAL, (ALL, [])), ())
        self.assertEqual(losers(DEAL, (ALL, KEPT[:1])), ("c",))
        self.assertEqual(losers(DEAL, (ALL, KEPT[:2])), ("b",))
        self.assertEqual(losers(DEAL, (ALL, KEPT[1:2])), ("b",))
        self.assertEqual(losers(DEAL, (ALL, KEPT[1:])), ("a",))
        self.assertEqual(losers(DEAL, (ALL, KEPT[::2])), ("c",))
        self.assertEqual(losers(deal=DEAL, course=(["c"], KEPT[:1])), ("c",))

    def test_several_losers(self):
        shows = [(0, AB, ("b",)), (1, AB, ("b", "a")), (2, AB, ("b", "c")), (2, BC, ("c",)), (3, BC, ("c", "a")), (3, BC, ("c", "b"))]
        self.assertEqual(taken(THREE, (ALL, shows)), (AB, BC))
        self.assertEqual(losers(THREE, (ALL, shows)), ("a", "b"))

    def test_who_hands_out_without_ins_never_loses(self):
        deal = deal_of(LINE, ["c"], [9, 9, 9], 1)
        self.assertEqual(losers(deal, (ALL, [(0, BC, ("c",))])), ("b",))
        self.assertEqual(losers(deal, (ALL, [(0, AB, ("b", "c"))])), ())

    def test_an_in_that_is_not_laid_is_not_taken(self):
        self.assertEqual(losers(DEAL, (["c"], [(0, CA, ("a",))])), ("c",))
        self.assertEqual(losers(DEAL, (["c", "b"], [(0, CA, ("a",)), (1, BC, ("c", "a"))])), ("b",))

    def test_kinds(self):
        for course in ((ALL, KEPT), (ALL, KEPT[:1]), ([], [])):
            self.assertIs(type(taken(DEAL, course)), tuple)
            self.assertIs(type(losers(DEAL, course)), tuple)

    def test_errors_in_the_order_of_the_parameters(self):
        for use in (taken, losers):
            for value in strange_values() + [RING]:
                with self.assertRaises(BadDeal) as caught:
                    use(value, None)
                self.assertEqual(caught.exception.part, "deal")
            for value in strange_values() + [[ALL, KEPT], (ALL, KEPT[::-1]), (ALL, [(1, CA, ("a",))]), ([], KEPT), (ALL,)]:
                with self.assertRaises(BadCourse) as caught:
                    use(DEAL, value)
                self.assertTrue(str(caught.exception))

    def test_arguments_are_not_changed(self):
        course = (list(ALL), list(KEPT))
        before = copy.deepcopy(course)
        for use in (taken, losers, lambda deal, thing: must_show(deal, thing, "a")):
            use(DEAL, course)
            self.assertEqual(course, before)


if __name__ == "__main__":
    unittest.main()

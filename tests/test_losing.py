"""Point 50: slips, slack, who can lose and how, and mended deals, by examples and wrong inputs."""

import unittest

from handlocks.courses import is_course, losers, must_show, taken
from handlocks.deals import Deal
from handlocks.errors import BadDeal, NoParty
from handlocks.keeping import goes_through
from handlocks.losing import can_lose, in_danger, is_sound, losing_course, mended, slack, slips
from handlocks.webs import Web
from tests.helper import LINE, RING, all_handings, deal_of, strange_values

AB, BC, CA, BA, CB = ("a", "b"), ("b", "c"), ("c", "a"), ("b", "a"), ("c", "b")
ALL = ["a", "b", "c"]
# With wait 2 the word of a comes to (c, a) at tick 0, to (b, c) at 2, to (a, b) at 4, each just in time.
JUST = Deal(RING, ["a"], {AB: [-1, -1, 4], BC: [-1, 2, -1], CA: [0, -1, -1]}, 2)
OF_PARTY = (slips, slack, can_lose, losing_course, mended)

# b hands to x and to z, who are leaders; the word of z comes to x by b alone, and the word of x never comes to z.
ROUND = Web(["b", "x", "z"], [("b", "x"), ("b", "z"), ("x", "b"), ("z", "b")])
ROUND_LAST = {("b", "x"): [9, 9, 9], ("b", "z"): [9, 9, -1], ("x", "b"): [9, 9, 9], ("z", "b"): [9, 9, 9]}
ROUND_DEAL = Deal(ROUND, ["x", "z"], ROUND_LAST, 1)


class LosingTest(unittest.TestCase):
    def loses(self, deal, party):
        """The party can lose, and the course that is told shows it."""
        self.assertIs(can_lose(deal, party), True)
        course = losing_course(deal, party)
        self.assertIs(type(course), tuple)
        self.assertEqual([type(part) for part in course], [list, list])
        self.assertTrue(is_course(deal, [party], course))
        self.assertIn(party, losers(deal, course))
        return course

    def never_loses(self, deal, party):
        self.assertIs(can_lose(deal, party), False)
        self.assertIsNone(losing_course(deal, party))


class TestSlips(LosingTest):
    def test_just_in_time(self):
        self.assertEqual([slips(JUST, party) for party in ALL], [[], [], []])
        self.assertEqual([slack(JUST, party) for party in ALL], [None, 0, 0])

    def test_one_tick_too_late(self):
        late = JUST.with_last(CA, 0, 1)
        self.assertEqual([slips(late, party) for party in ALL], [[], [], [(("a",), BC)]])
        self.assertEqual([slack(late, party) for party in ALL], [None, 0, -1])
        late = JUST.with_wait(3)
        self.assertEqual([slips(late, party) for party in ALL], [[], [(("c", "a"), AB)], [(("a",), BC)]])
        self.assertEqual([slack(late, party) for party in ALL], [None, -1, -1])

    def test_what_is_never_shown_makes_no_slip(self):
        deal = JUST.with_last(CA, 0, -1).with_last(BC, 1, -1)
        self.assertEqual([slips(deal, party) for party in ALL], [[], [], []])
        self.assertEqual([slack(deal, party) for party in ALL], [None, None, None])
        deal = JUST.with_last(BC, 1, -1)
        self.assertEqual(slips(deal, "c"), [(("a",), BC)])
        self.assertEqual(slack(deal, "c"), -3)
        self.assertEqual(slack(JUST.with_last(CA, 0, 99).with_last(BC, 1, -1).with_wait(5), "c"), -105)
        self.assertEqual(slack(JUST.with_last(CA, 0, 0).with_last(BC, 1, 99).with_wait(1), "c"), 98)

    def test_trails_in_which_the_party_stands_make_none(self):
        web = Web(ALL, [AB, BA, BC, CB])
        deal = deal_of(web, ["a"], [9, 0, 0], 1)
        # At (b, c) there is just (c, b, a), which b stands in.
        self.assertEqual(slips(deal, "b"), [(("a",), AB), (("a",), CB)])
        self.assertEqual(slips(deal, "c"), [(("b", "a"), BC)])
        self.assertEqual(slips(deal, "a"), [])

    def test_all_outs_all_ins_and_all_leaders_ascending(self):
        deal = deal_of(Web(ALL, all_handings("abc")), ALL, [1, 1, 1], 1)
        expected = [(("a",), AB), (("a",), CB), (("a", "c"), AB), (("a", "c"), CB), (("c",), AB), (("c",), CB), (("c", "a"), AB),
                    (("c", "a"), CB)]
        self.assertEqual(slips(deal, "b"), expected)
        self.assertEqual(slips(deal.with_leaders(["c", "b"]), "b"), [(("a", "c"), AB), (("a", "c"), CB), (("c",), AB), (("c",), CB)])
        self.assertEqual(slips(deal.with_last(CB, 1, 2), "b"), [pair for pair in expected if len(pair[0]) == 2 or pair[1] == AB])
        self.assertEqual(slips(deal.with_last(BA, 0, -1), "b"), [pair for pair in expected if pair[0] != ("a",)])

    def test_without_ins_or_outs(self):
        deal = deal_of(LINE, ["c"], [5, 0, 0], 1)
        self.assertEqual([slips(deal, party) for party in ALL], [[], [(("c",), AB)], []])
        self.assertEqual([slack(deal, party) for party in ALL], [None, -6, None])

    def test_slack_is_the_least_over_slips_or_not(self):
        web = Web(list("abcd"), [("a", "b"), ("d", "b"), ("b", "c"), ("b", "d"), ("d", "c")])
        deal = deal_of(web, ["c"], [3, 9, 9, 9], 2).with_last(("b", "d"), 1, 5).with_last(("d", "b"), 2, 6)
        self.assertEqual(slack(deal, "b"), -1)
        self.assertEqual(slips(deal, "b"), [(("d", "c"), ("d", "b"))])
        self.assertEqual(slack(deal.with_last(("d", "b"), 2, 7), "b"), 0)
        self.assertEqual(slack(deal.with_last(("d", "b"), 2, 20), "b"), 2)
        self.assertEqual(slack(deal.with_last(("d", "b"), 2, 20).with_last(("a", "b"), 1, 6), "b"), 1)

    def test_new_each_time(self):
        deal = JUST.with_last(CA, 0, 1)
        told = slips(deal, "c")
        self.assertIs(type(told), list)
        told.clear()
        self.assertEqual(slips(deal, "c"), [(("a",), BC)])


class TestCanLose(LosingTest):
    def test_just_in_time_and_one_tick_too_late(self):
        for party in ALL:
            self.never_loses(JUST, party)
        late = JUST.with_last(CA, 0, 1)
        laying, shows = self.loses(late, "c")
        self.assertIn((1, CA, ("a",)), shows)
        self.assertEqual(taken(late, (laying, shows))[-1:], (CA,))
        self.never_loses(late, "a")
        self.never_loses(late, "b")
        late = JUST.with_last(BC, 1, 3)
        self.loses(late, "b")
        self.never_loses(late, "c")

    def test_edges_of_last_ticks_and_waits(self):
        deal = deal_of(RING, ["a"], [99, 99, 99], 1)
        self.loses(deal, "b")
        self.loses(deal, "c")
        self.assertIn((99, CA, ("a",)), losing_course(deal, "c")[1])
        self.never_loses(deal_of(RING, ["a"], [94, 99, 99], 5), "c")
        self.loses(deal_of(RING, ["a"], [95, 99, 99], 5), "c")
        self.never_loses(deal_of(RING, ["a"], [-1, -1, -1], 5), "c")
        self.loses(deal_of(RING, ["a"], [0, -1, -1], 1), "c")
        self.loses(deal_of(RING, ["a"], [0, 0, 0], 1), "c")

    def test_without_ins_or_outs(self):
        deal = deal_of(LINE, ["c"], [9, 0, 0], 1)
        self.never_loses(deal, "a")
        self.never_loses(deal, "c")
        self.loses(deal, "b")

    def test_the_only_leader_cannot_lose(self):
        for web in (RING, LINE, Web(ALL, all_handings("abc"))):
            for row in ([9, 0, 0], [0, 0, 0], [-1, 9, 9], [9, 9, 9], [0, 1, 2]):
                for leader in ALL:
                    self.never_loses(deal_of(web, [leader], row, 1), leader)

    def test_a_leader_loses_by_the_word_of_another(self):
        deal = deal_of(RING, ["a", "b"], [1, 2, 2], 1)
        self.never_loses(deal, "a")
        # b must show the word of a at (a, b), which c may know too late; its own word comes back to it by a.
        self.loses(deal, "b")
        # But not if its own word cannot come to c: then (b, c) is never taken.
        self.never_loses(deal.with_last(BC, 2, 0), "b")
        self.never_loses(deal.with_last(AB, 0, -1), "b")
        self.loses(deal.with_last(BC, 2, 1), "b")

    def test_a_slip_need_not_lose(self):
        # The word of c never comes to (b, c): the handing with the slip is never taken.
        deal = deal_of(LINE, ["c", "a"], [9, 0, 0], 1)
        self.assertEqual(slips(deal, "b"), [(("c",), AB)])
        self.never_loses(deal, "b")
        self.loses(deal.with_leaders(["c"]), "b")

    def test_the_words_of_all_leaders_must_come_to_one_out(self):
        web = Web(list("abcd"), [AB, BC, ("b", "d")])
        deal = deal_of(web, ["c"], [9, 0, 0, 0], 1)
        self.loses(deal, "b")
        self.never_loses(deal.with_leaders(["c", "d"]), "b")
        tied = Web(list("abcd"), [AB, BC, ("b", "d"), ("c", "d"), ("d", "c")])
        self.loses(deal_of(tied, ["c", "d"], [9, 0, 0, 0], 1), "b")
        self.never_loses(deal_of(tied, ["c", "d"], [9, -1, 0, 0], 1), "b")

    def test_three_leaders(self):
        deal = deal_of(Web(ALL, all_handings("abc")), ALL, [0, 1, 2], 1)
        for party in ALL:
            self.never_loses(deal, party)
        self.loses(deal.with_last(BA, 0, 1), "b")
        self.assertEqual(in_danger(deal.with_last(BA, 0, 1)), ("b",))

    def test_a_word_that_comes_by_the_keeper_itself(self):
        deal = ROUND_DEAL.with_last(("z", "b"), 1, 0)
        laying, shows = self.loses(deal, "b")
        # z shows b its word, b shows x what it has seen, and so x opens what b has handed it.
        self.assertEqual(taken(deal, (laying, shows)), (("b", "x"),))
        self.assertIn(("x", "b", "z"), [trail for tick, handing, trail in shows])

    def test_a_word_that_cannot_come_by_the_keeper(self):
        deal = ROUND_DEAL.with_last(("z", "b"), 1, 0)
        self.loses(deal.with_last(("b", "x"), 2, 2), "b")
        # x cannot know it at the tick at which b shows it.
        self.never_loses(deal.with_last(("b", "x"), 2, 1).with_last(("b", "x"), 0, 0), "b")
        # b shows it nowhere.
        self.never_loses(deal.with_last(("x", "b"), 1, 0), "b")
        self.never_loses(deal.with_last(("b", "z"), 0, -1), "b")

    def test_a_word_that_must_come_late_enough_by_the_keeper(self):
        deal = ROUND_DEAL.with_last(("b", "x"), 0, 0)
        for missed in range(0, 8):
            self.loses(deal.with_last(("z", "b"), 1, missed), "b")
        # b would show it at (z, b) up to tick 8, so x knows of it at tick 10, which is too late for x.
        self.never_loses(deal.with_last(("z", "b"), 1, 8), "b")
        self.loses(deal.with_last(("z", "b"), 1, 8).with_last(("b", "x"), 2, 10), "b")
        self.never_loses(deal.with_last(("z", "b"), 1, 9).with_last(("b", "x"), 2, 99), "b")

    def test_the_own_word_of_a_leader_comes_from_itself(self):
        deal = deal_of(RING, ["a", "c"], [9, 9, 9], 1)
        self.loses(deal, "a")
        self.loses(deal.with_last(AB, 2, 1), "a")
        self.never_loses(deal.with_last(AB, 2, 0), "a")
        self.never_loses(deal.with_last(CA, 0, -1), "a")

    def test_the_course_is_new_each_time_and_equal(self):
        deal = JUST.with_last(CA, 0, 1)
        told = losing_course(deal, "c")
        again = ([*told[0]], [*told[1]])
        told[0].clear()
        told[1].append(None)
        same = Deal(Web(("c", "b", "a"), (CA, BC, AB)), ("a",), {h: list(deal.last[h]) for h in deal.last}, 2)
        self.assertEqual(losing_course(same, "c"), again)

    def test_the_keeper_shows_what_it_must(self):
        deal = ROUND_DEAL.with_last(("z", "b"), 1, 0)
        course = losing_course(deal, "b")
        own = [show for show in course[1] if show[1][1] == "b"]
        self.assertEqual(own, must_show(deal, course, "b"))


class TestInDanger(LosingTest):
    def test_in_danger_and_is_sound(self):
        self.assertEqual(in_danger(JUST), ())
        self.assertIs(is_sound(JUST), True)
        late = JUST.with_wait(3)
        self.assertEqual(in_danger(late), ("b", "c"))
        self.assertIs(is_sound(late), False)
        self.assertEqual(in_danger(JUST.with_last(CA, 0, 9)), ("c",))
        self.assertIs(type(in_danger(late)), tuple)
        self.assertEqual((in_danger(deal=late), is_sound(deal=late)), (("b", "c"), False))

    def test_in_danger_though_it_does_not_go_through(self):
        deal = JUST.with_last(AB, 2, 3)
        self.assertFalse(goes_through(deal))
        self.assertEqual(in_danger(deal), ("b",))


class TestMended(LosingTest):
    def test_as_far_as_is_needed(self):
        late = JUST.with_last(CA, 0, 3)
        self.assertEqual(mended(late, "c"), late.with_last(BC, 1, 5))
        self.assertEqual(mended(late, "b"), late)
        self.assertEqual(mended(late, "a"), late)
        self.assertEqual(late, JUST.with_last(CA, 0, 3))
        self.assertEqual(slips(mended(late, "c"), "c"), [])
        self.assertEqual(slack(mended(late, "c"), "c"), 0)

    def test_who_has_no_slips_gets_the_deal_as_it_is(self):
        roomy = deal_of(RING, ["a"], [0, 50, 99], 2)
        for party in ALL:
            self.assertEqual(mended(roomy, party), roomy)

    def test_all_ins_and_the_latest_trail_of_a_length(self):
        web = Web(list("abcd"), [AB, ("d", "b"), BC, ("b", "d"), ("c", "d"), ("d", "c")])
        last = {handing: [0, 0, 0, 0] for handing in web.handings}
        last[BC], last[("b", "d")] = [4, 1, 0, 0], [7, 6, 0, 0]
        deal = Deal(web, ["c", "d"], last, 2)
        better = mended(deal, "b")
        self.assertEqual(better.last, {**last, AB: (0, 9, 8, 0), ("d", "b"): (0, 9, 8, 0), BC: (4, 1, 0, 0),
                                       ("b", "d"): (7, 6, 0, 0), ("c", "d"): (0,) * 4, ("d", "c"): (0,) * 4})
        self.assertEqual((better.web, better.leaders, better.wait), (web, ("c", "d"), 2))

    def test_from_never(self):
        deal = JUST.with_last(BC, 1, -1)
        self.assertEqual(mended(deal, "c"), JUST)
        self.assertEqual(mended(JUST.with_last(CA, 0, -1).with_last(BC, 1, -1), "c"),
                         JUST.with_last(CA, 0, -1).with_last(BC, 1, -1))

    def test_up_to_99_and_none_above(self):
        deal = JUST.with_last(CA, 0, 97)
        self.assertEqual(mended(deal, "c"), deal.with_last(BC, 1, 99))
        self.assertIsNone(mended(JUST.with_last(CA, 0, 98), "c"))
        self.assertIsNone(mended(JUST.with_last(CA, 0, 99).with_wait(1), "c"))
        self.assertEqual(mended(JUST.with_last(CA, 0, 94).with_wait(5), "c").last[BC][1], 99)
        self.assertIsNone(mended(JUST.with_last(CA, 0, 95).with_wait(5), "c"))
        self.assertEqual(mended(JUST.with_last(CA, 0, 98), "b"), JUST.with_last(CA, 0, 98))


class TestArguments(LosingTest):
    def test_by_name(self):
        late = JUST.with_wait(3)
        for use in OF_PARTY:
            for party in ALL:
                self.assertEqual(use(party=party, deal=late), use(late, party))

    def test_what_is_no_deal(self):
        for value in strange_values() + [RING, JUST.last]:
            for use in OF_PARTY:
                for party in ("a", None):
                    with self.assertRaises(BadDeal) as caught:
                        use(value, party)
                    self.assertEqual(caught.exception.part, "deal")
            for use in (in_danger, is_sound):
                with self.assertRaises(BadDeal) as caught:
                    use(value)
                self.assertEqual(caught.exception.part, "deal")

    def test_what_is_no_party(self):
        for value in strange_values() + ["d", ("a",), ["a"], "ab", JUST]:
            for use in OF_PARTY:
                with self.assertRaises(NoParty) as caught:
                    use(JUST, value)
                self.assertEqual(caught.exception.party, value)

    def test_the_deal_is_not_changed(self):
        late = JUST.with_wait(3)
        for use in OF_PARTY:
            use(late, "c")
        in_danger(late)
        self.assertEqual(late, Deal(RING, ["a"], {AB: [-1, -1, 4], BC: [-1, 2, -1], CA: [0, -1, -1]}, 3))


if __name__ == "__main__":
    unittest.main()

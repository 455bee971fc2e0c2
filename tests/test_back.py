"""Points 90 and 91: who kept the rules, the first fault of who did not, who had which word when, whom to trust."""

import copy
import random
import unittest

from handlocks.back import first_fault, heard, keepers_in, trusted
from handlocks.courses import is_course
from handlocks.deals import Deal
from handlocks.errors import BadCourse, BadDeal, NoParty
from handlocks.keeping import kept_course, stopped_course
from handlocks.losing import in_danger, losing_course
from handlocks.webs import Web
from tests import helper
from tests.helper import LINE, RING, all_handings, deal_of, strange_values

AB, BC, CA, BA, BD, CD = ("a", "b"), ("b", "c"), ("c", "a"), ("b", "a"), ("b", "d"), ("c", "d")
ALL = ["a", "b", "c"]
DEAL = Deal(RING, ["a"], {AB: [9, 9, 4], BC: [9, 2, 9], CA: [0, 9, 9]}, 2)
KEPT = [(0, CA, ("a",)), (2, BC, ("c", "a")), (4, AB, ("b", "c", "a"))]
OPEN = deal_of(RING, ["a"], [9, 9, 9], 2)
NO_COURSES = strange_values() + [[ALL, KEPT], (ALL, KEPT[::-1]), (ALL, [(1, CA, ("a",))]), ([], KEPT), (ALL, KEPT, 0),
                                 (ALL, [(True, CA, ("a",))]), (ALL, [[0, CA, ("a",)]]), (["a", "a"], []), (["z"], [])]
USES = (keepers_in, trusted, lambda deal, course: first_fault(deal, course, None), lambda deal, course: heard(deal, course, None))


def plain_first_fault(deal, laying, shows, party):
    if party in laying and party not in deal.leaders:
        for giver, taker in deal.web.handings:
            if taker == party and giver not in laying[:laying.index(party)]:
                return ("laid", giver)
    done = {show for show in shows if show[1][1] == party}
    wrong = done ^ set(helper.plain_must(deal, laying, shows, party))
    return ("shown", min(wrong)) if wrong else None


def plain_trusted(deal, laying, shows):
    lots = [lot for lot in helper.all_lots(deal.web.parties) if helper.plain_is_course(deal, lot, laying, shows)]
    return helper.in_order([lot for lot in lots if not any(set(lot) < set(other) for other in lots)])


def plain_heard(deal, shows, leader):
    found = {}
    for party in deal.web.parties:
        seen = [tick + deal.wait for tick, (giver, _), trail in shows if giver == party and trail[-1] == leader]
        found[party] = 0 if party == leader else min(seen, default=None)
    return found


class TestKeepersIn(unittest.TestCase):
    def test_examples(self):
        self.assertEqual(keepers_in(DEAL, (ALL, KEPT)), ("a", "b", "c"))
        self.assertEqual(keepers_in(DEAL, (ALL, KEPT[:2])), ("a", "c"))
        self.assertEqual(keepers_in(DEAL, (ALL, KEPT[:1])), ("a", "b"))
        self.assertEqual(keepers_in(DEAL, (ALL, KEPT[1:])), ("b",))
        self.assertEqual(keepers_in(DEAL, (ALL, [])), ("b", "c"))

    def test_by_what_is_laid(self):
        self.assertEqual(keepers_in(DEAL, ([], [])), ("a", "b", "c"))
        self.assertEqual(keepers_in(DEAL, (["a"], [])), ("a", "b", "c"))
        self.assertEqual(keepers_in(DEAL, (["b"], [])), ("a", "c"))
        self.assertEqual(keepers_in(DEAL, (["b", "a"], [])), ("a", "c"))
        self.assertEqual(keepers_in(DEAL, (["c", "b", "a"], KEPT)), ("a",))
        # Leaders lay whenever they like; but a must show its word where c has laid.
        self.assertEqual(keepers_in(DEAL.with_leaders(["a", "c"]), (["c"], [])), ("b", "c"))
        self.assertEqual(keepers_in(DEAL.with_leaders(["a", "c"]), (["c"], KEPT[:1])), ("a", "b", "c"))

    def test_also_who_cannot_all_be_keepers_at_once(self):
        # b answers to what c has shown, and c cannot have had it from a, who has shown nothing and need not.
        course = (["a", "b"], [(3, BC, ("c", "a")), (5, AB, ("b", "c", "a"))])
        self.assertEqual(keepers_in(OPEN, course), ("a", "b"))
        self.assertTrue(is_course(OPEN, ["b"], course))
        self.assertFalse(is_course(OPEN, ["a"], course))

    def test_tuples_and_by_name(self):
        self.assertEqual(keepers_in(course=(tuple(ALL), tuple(KEPT)), deal=DEAL), ("a", "b", "c"))
        self.assertIs(type(keepers_in(DEAL, ([], []))), tuple)


class TestFirstFault(unittest.TestCase):
    def test_none(self):
        for party in ALL:
            self.assertIsNone(first_fault(DEAL, (ALL, KEPT), party))
            self.assertIsNone(first_fault(DEAL, ([], []), party))

    def test_laid(self):
        self.assertEqual(first_fault(DEAL, (["b"], []), "b"), ("laid", "a"))
        self.assertEqual(first_fault(DEAL, (["b", "a"], []), "b"), ("laid", "a"))
        self.assertEqual(first_fault(DEAL, (["c", "b", "a"], []), "c"), ("laid", "b"))
        self.assertIsNone(first_fault(DEAL, (["c", "b", "a"], KEPT), "a"))

    def test_laid_names_the_least_party(self):
        deal = deal_of(Web(list("abcd"), [("b", "d"), ("c", "d"), ("a", "d"), ("d", "a")]), ["a"], [9] * 4, 1)
        self.assertEqual(first_fault(deal, (["d"], []), "d"), ("laid", "a"))
        self.assertEqual(first_fault(deal, (["a", "d", "b", "c"], []), "d"), ("laid", "b"))
        self.assertEqual(first_fault(deal, (["a", "b", "d"], []), "d"), ("laid", "c"))
        self.assertIsNone(first_fault(deal, (["c", "b", "a", "d"], []), "d"))

    def test_laid_goes_ahead_of_shown(self):
        self.assertEqual(first_fault(DEAL, (["c", "b", "a"], KEPT[:1]), "c"), ("laid", "b"))

    def test_shown(self):
        self.assertEqual(first_fault(DEAL, (ALL, []), "a"), ("shown", KEPT[0]))
        self.assertEqual(first_fault(DEAL, (ALL, KEPT[:1]), "c"), ("shown", KEPT[1]))
        self.assertEqual(first_fault(DEAL, (ALL, KEPT[1:]), "c"), ("shown", KEPT[1]))
        self.assertEqual(first_fault(OPEN, (ALL, [(0, CA, ("a",)), (3, BC, ("c", "a"))]), "c"), ("shown", (2, BC, ("c", "a"))))
        self.assertEqual(first_fault(OPEN, (ALL, [(0, CA, ("a",)), (1, BC, ("c", "a"))]), "c"), ("shown", (1, BC, ("c", "a"))))
        self.assertEqual(first_fault(OPEN, (ALL, [(1, CA, ("a",))]), "a"), ("shown", (0, CA, ("a",))))

    def test_shown_with_another_trail(self):
        web = Web(list("abcd"), [AB, BC, BD, CD])
        deal = deal_of(web, ["d"], [9] * 4, 1)
        shows = [(0, BC, ("c", "d")), (0, BD, ("d",)), (1, AB, ("b", "d"))]
        self.assertEqual(first_fault(deal, (list("abcd"), shows), "b"), ("shown", (1, AB, ("b", "c", "d"))))
        shows = [(0, BD, ("d",)), (1, AB, ("b", "c", "d"))]
        self.assertEqual(first_fault(deal, (list("abcd"), shows), "b"), ("shown", (1, AB, ("b", "c", "d"))))

    def test_errors_in_the_order_of_the_parameters(self):
        for value in strange_values() + ["d", ("a",), ["a"], DEAL]:
            with self.assertRaises(NoParty) as caught:
                first_fault(DEAL, (ALL, KEPT), value)
            self.assertEqual(caught.exception.party, value)
        self.assertIsNone(first_fault(party="a", course=(ALL, KEPT), deal=DEAL))


class TestHeard(unittest.TestCase):
    def test_examples(self):
        self.assertEqual(heard(DEAL, (ALL, KEPT), "a"), {"a": 0, "b": 4, "c": 2})
        self.assertEqual(heard(DEAL, (ALL, KEPT[:1]), "a"), {"a": 0, "b": None, "c": 2})
        self.assertEqual(heard(DEAL, (ALL, KEPT[2:]), "a"), {"a": 0, "b": None, "c": None})
        self.assertEqual(heard(DEAL, ([], []), "a"), {"a": 0, "b": None, "c": None})

    def test_the_first_show_with_whatever_trail(self):
        web = Web(ALL, [AB, BA, BC, CA])
        deal = deal_of(web, ["a"], [9, 9, 9], 3)
        shows = [(1, BC, ("c", "a")), (2, BA, ("a",)), (4, AB, ("b", "c", "a")), (5, CA, ("a",))]
        self.assertEqual(heard(deal, (ALL, shows), "a"), {"a": 0, "b": 4, "c": 8})
        # Also with a trail in which it stands itself.
        deal = deal_of(web, ["c"], [9, 9, 9], 1)
        self.assertEqual(heard(deal, (ALL, [(2, BA, ("a", "b", "c"))]), "c"), {"a": None, "b": 3, "c": 0})

    def test_of_several_leaders(self):
        deal = deal_of(RING, ["a", "b"], [9, 9, 9], 1)
        shows = [(1, AB, ("b",)), (2, CA, ("a",)), (4, CA, ("a", "b"))]
        self.assertEqual(heard(deal, (ALL, shows), "a"), {"a": 0, "b": None, "c": 3})
        self.assertEqual(heard(deal, (ALL, shows), "b"), {"a": 2, "b": 0, "c": 5})

    def test_keys_ascend_and_new_each_time(self):
        told = heard(DEAL, (ALL, KEPT), "a")
        self.assertEqual(list(told), ALL)
        told.clear()
        self.assertEqual(heard(leader="a", course=(tuple(ALL), tuple(KEPT)), deal=DEAL), {"a": 0, "b": 4, "c": 2})
        self.assertEqual(list(heard(deal_of(RING, ["c"], [9, 9, 9], 1), ([], []), "c")), ALL)

    def test_what_is_no_leader(self):
        for value in strange_values() + ["b", "c", "d", ("a",), ["a"], DEAL]:
            with self.assertRaises(NoParty) as caught:
                heard(DEAL, (ALL, KEPT), value)
            self.assertEqual(caught.exception.party, value)


class TestTrusted(unittest.TestCase):
    def test_examples(self):
        self.assertEqual(trusted(DEAL, (ALL, KEPT)), [("a", "b", "c")])
        self.assertEqual(trusted(DEAL, (ALL, KEPT[:2])), [("a", "c")])
        self.assertEqual(trusted(DEAL, (ALL, [])), [("b", "c")])
        self.assertEqual(trusted(DEAL, ([], [])), [("a", "b", "c")])

    def test_perhaps_nobody(self):
        deal = deal_of(Web(["a", "b"], [AB, BA]), ["a"], [9, 9], 1)
        shows = [(1, AB, ("b", "a")), (1, BA, ("a",))]
        self.assertEqual(trusted(deal, (["b", "a"], shows)), [()])

    def test_who_acts_as_a_keeper_need_not_be_one(self):
        # d shows at (c, d) the word of a with itself, b and a as trail, at the tick at which b shows it first.
        web = Web(list("abcd"), [("a", "c"), ("b", "a"), ("d", "b"), CD])
        deal = deal_of(web, ["a"], [9] * 4, 1)
        shows = [(0, BA, ("a",)), (1, CD, ("d", "b", "a")), (1, ("d", "b"), ("b", "a")), (2, ("a", "c"), ("c", "d", "b", "a"))]
        course = (["a", "c", "d", "b"], shows)
        self.assertEqual(keepers_in(deal, course), ("a", "b", "c"))
        self.assertEqual(trusted(deal, course), [("a", "c")])

    def test_tuples_and_new_each_time(self):
        told = trusted(course=(tuple(ALL), tuple(KEPT)), deal=DEAL)
        told.clear()
        self.assertEqual(trusted(DEAL, (ALL, KEPT)), [("a", "b", "c")])
        self.assertIs(type(trusted(DEAL, (ALL, KEPT))[0]), tuple)


class TestErrors(unittest.TestCase):
    def test_what_is_no_deal(self):
        for use in USES:
            for value in strange_values() + [RING]:
                with self.assertRaises(BadDeal) as caught:
                    use(value, None)
                self.assertEqual(caught.exception.part, "deal")

    def test_what_is_no_course(self):
        for use in USES:
            for value in NO_COURSES:
                with self.assertRaises(BadCourse) as caught:
                    use(DEAL, value)
                self.assertTrue(str(caught.exception))

    def test_arguments_are_not_changed(self):
        course = (list(ALL), list(KEPT))
        before = copy.deepcopy(course)
        for use in (keepers_in, trusted, lambda deal, thing: first_fault(deal, thing, "a"), lambda deal, thing: heard(deal, thing, "a")):
            use(DEAL, course)
            self.assertEqual(course, before)


class TestAgainstPlainReading(unittest.TestCase):
    TINY = helper.some_deals([2, 3, 3], 4, 12, 40, 90) + helper.some_deals([4], 3, 3, 20, 91)
    WIDE = helper.some_deals([3, 4, 4], 8, 120, 10 ** 12, 92) + [
        deal_of(Web(ALL, all_handings(ALL)), ALL, [0, 1, 2], 1), deal_of(LINE, ["c"], [0, 2, 4], 2)]

    def check_course(self, deal, laying, shows):
        """All that is told of a course; the lot of those who act as keepers, and of those who can be trusted."""
        course = (list(laying), shows)
        faults = {party: plain_first_fault(deal, list(laying), shows, party) for party in deal.web.parties}
        for party in deal.web.parties:
            self.assertEqual(first_fault(deal, course, party), faults[party])
        keepers = tuple(party for party in deal.web.parties if faults[party] is None)
        self.assertEqual(keepers_in(deal, course), keepers)
        lots = trusted(deal, course)
        self.assertEqual(lots, plain_trusted(deal, list(laying), shows))
        # The list always has just one lot, and each of it acts as a keeper.
        self.assertEqual(len(lots), 1)
        self.assertTrue(set(lots[0]) <= set(keepers))
        for leader in deal.leaders:
            self.assertEqual(heard(deal, course, leader), plain_heard(deal, shows, leader))
        return (keepers, lots[0])

    def test_all_possibilities(self):
        found = set()
        for deal in self.TINY:
            for laying in [()] + helper.all_rows(deal.web.parties):
                for shows in helper.all_plays(deal, laying):
                    keepers, lot = self.check_course(deal, laying, shows)
                    found.add((len(keepers), len(lot)))
        self.assertTrue({(0, 0), (1, 1), (2, 2), (3, 3)} <= found)

    def test_some_possibilities(self):
        chance = random.Random(93)
        found = set()
        for deal in self.WIDE:
            for lot in chance.sample(helper.all_lots(deal.web.parties), 4):
                laying = chance.sample(deal.web.parties, chance.randint(1, len(deal.web.parties)))
                slots = helper.slots_of(deal, laying)
                free = sorted({chance.choice(slot) for slot in slots} - {None})
                free = [show for show in free if show[1][1] not in lot]
                keepers, told = self.check_course(deal, laying, helper.plain_answered(deal, laying, free, lot))
                found.add(told == keepers)
                if helper.plain_is_laying(deal.web, deal.leaders, lot, laying):
                    self.assertTrue(set(lot) <= set(keepers))
        self.assertEqual(found, {True, False})

    def test_courses_that_the_program_tells(self):
        for deal in self.WIDE:
            keepers, lot = self.check_course(deal, *kept_course(deal))
            self.assertEqual((keepers, lot), (deal.web.parties, deal.web.parties))
            for party in deal.web.parties:
                keepers, lot = self.check_course(deal, *stopped_course(deal, party, 1))
                self.assertTrue(set(deal.web.parties) - {party} <= set(lot))
            for party in in_danger(deal):
                keepers, lot = self.check_course(deal, *losing_course(deal, party))
                self.assertIn(party, lot)


if __name__ == "__main__":
    unittest.main()

"""Points 80 and 81: rules of last ticks, and the least webs in which somebody loses, or not all goes through."""

import functools
import itertools
import random
import unittest

from handlocks.deals import Deal
from handlocks.errors import BadLeaders, BadNumber, BadRule, BadWeb, NoParty
from handlocks.keeping import goes_through
from handlocks.losing import can_lose, in_danger
from handlocks.rules import TrailRule, WayRule, least_losing, least_stuck, losing_web, most_wait
from handlocks.webs import Web, farthest, is_tied, nearest, rings
from tests import helper
from tests.helper import LINE, RING, all_webs, lists_and_no_lists, strange_values, values_not_equal_to

AB, BC, CA, BA = ("a", "b"), ("b", "c"), ("c", "a"), ("b", "a")
ALL = ["a", "b", "c"]
TRAIL = TrailRule([0, 2, 5], 3)
WAY = WayRule(1, 2, 3, 4)
NO_NUMBERS = [None, True, False, "", "1", [], [1], (1,), {}, {1: 1}, 10 ** 999, -10 ** 999, -1, RING]
NO_LISTED = [None, True, 3, "", "0", "012", {}, {0: 0}, [], (), [0] * 5, [-1], [41], [0, 41], [True], [0, False], [None],
             [[0]], [(0,)], ["0"], [10 ** 999], RING, TRAIL]
# Of each size the webs that are no others with the names changed.
SIZES = (2, 3, 4)


def changed_names(web, row):
    """The handings of the web with other names, by the order of its parties."""
    new = dict(zip(web.parties, row))
    return tuple(sorted((new[giver], new[taker]) for giver, taker in web.handings))


@functools.cache
def webs_of(many):
    parties = list("abcdef")[:many]
    known, found = set(), []
    for web in all_webs(parties):
        if web.handings not in known:
            found.append(web)
            known |= {changed_names(web, row) for row in itertools.permutations(parties)}
    return found


def leader_lots(web):
    return [lot for lot in helper.all_lots(web.parties) if 1 <= len(lot) <= 3]


def meets_each_ring(web, leaders):
    return all(set(leaders) & set(ring) for ring in helper.plain_rings(web))


@functools.cache
def tied_with_leaders(many):
    """The pairs of a tied web of so many parties and one to three leaders who meet each ring."""
    return [(web, lot) for web in webs_of(many) if is_tied(web) for lot in leader_lots(web) if meets_each_ring(web, lot)]


class WideWeb:
    """A tied web of any number of parties, 0 to many - 1, in which 0 stands in each ring, for plain numbers only.

    Without 0 all handings are from lower to higher numbers.
    """

    def __init__(self, many, handings):
        self.many, self.handings = many, handings
        self.near, self.far = {0: 0}, {0: 0}
        for party in reversed(range(1, many)):
            takers = [taker for giver, taker in handings if giver == party]
            if not takers or not all(taker in self.near for taker in takers):
                self.near = None
                return
            self.near[party] = 1 + min(self.near[taker] for taker in takers)
            self.far[party] = 1 + max(self.far[taker] for taker in takers)

    def is_tied(self):
        return self.near is not None and all(any(taker == party for _, taker in self.handings) for party in range(self.many))

    def number(self, rule, party):
        return (rule.constant + rule.per_near * self.near[party] + rule.per_far * self.far[party]
                + rule.per_party * self.many)

    def somebody_loses(self, rule, wait):
        """Whether somebody has a slip: what it hands out is open too long for what is handed to it."""
        return any(giver != 0 and self.number(rule, taker) + wait > self.number(rule, giver)
                   for giver, taker in self.handings)

    def is_stuck(self, rule, wait):
        """Whether somebody cannot show the word in time, though it came by the nearest way."""
        return any(wait * self.near[party] > self.number(rule, party) for party in range(self.many))


@functools.cache
def wide_webs(many):
    """All webs of this sort, up to the names of the parties."""
    inner = list(itertools.combinations(range(1, many), 2))
    outer = [(0, party) for party in range(1, many)] + [(party, 0) for party in range(1, many)]
    pairs = inner + outer
    found = {}
    for chosen in itertools.product((False, True), repeat=len(pairs)):
        web = WideWeb(many, [pair for pair, is_in in zip(pairs, chosen) if is_in])
        if web.is_tied():
            # Webs with the same lengths at the same handings are the same for all that is asked here.
            found[tuple(sorted({(web.near[p], web.far[p], web.near[q], web.far[q], p == 0) for p, q in web.handings}))] = web
    return list(found.values())


class TestTrailRule(unittest.TestCase):
    def test_until(self):
        self.assertEqual([TRAIL.until(k) for k in range(7)], [0, 2, 5, 8, 11, 14, 17])
        self.assertEqual([TrailRule([7], 0).until(k) for k in (0, 1, 1000)], [7, 7, 7])
        self.assertEqual([TrailRule([40], 10).until(k) for k in (0, 1, 5, 1000)], [40, 50, 90, 10040])
        self.assertEqual([TrailRule([3, 0, 40, 1], 2).until(k) for k in range(6)], [3, 0, 40, 1, 3, 5])
        self.assertEqual(TRAIL.until(length=4), 11)

    def test_until_what_is_no_length(self):
        for value in NO_NUMBERS + [1001]:
            with self.assertRaises(BadNumber) as caught:
                TRAIL.until(value)
            self.assertEqual(caught.exception.number, value)
            self.assertIs(type(caught.exception.number), type(value))

    def test_properties(self):
        self.assertEqual((TRAIL.listed, TRAIL.growth), ((0, 2, 5), 3))
        rule = TrailRule(growth=10, listed=(40,))
        self.assertEqual((rule.listed, rule.growth), ((40,), 10))
        self.assertIs(type(TRAIL.listed), tuple)

    def test_the_argument_is_copied(self):
        listed = [1, 2, 3, 4]
        rule = TrailRule(listed, 0)
        listed[0] = 9
        listed.clear()
        self.assertEqual(rule.listed, (1, 2, 3, 4))

    def test_what_makes_no_rule(self):
        for value in NO_LISTED:
            with self.assertRaises(BadRule) as caught:
                TrailRule(value, None)
            self.assertEqual(caught.exception.part, "listed")
        for value in NO_NUMBERS + [11]:
            with self.assertRaises(BadRule) as caught:
                TrailRule([0], value)
            self.assertEqual(caught.exception.part, "growth")

    def test_equal(self):
        self.assertEqual(TRAIL, TrailRule((0, 2, 5), 3))
        self.assertNotEqual(TRAIL, TrailRule((0, 2, 5), 2))
        self.assertNotEqual(TRAIL, TrailRule((0, 2, 4), 3))
        # By its properties, and not by its numbers.
        self.assertNotEqual(TRAIL, TrailRule((0, 2, 5, 8), 3))
        self.assertNotEqual(TrailRule([0], 0), WayRule(0, 0, 0, 0))
        for value in values_not_equal_to(TRAIL):
            self.assertFalse(TRAIL == value)
            self.assertTrue(TRAIL != value)

    def test_is_not_iterated_over(self):
        for rule in (TRAIL, WAY):
            with self.assertRaises(TypeError):
                iter(rule)
            with self.assertRaises(TypeError):
                0 in rule

    def test_deal_for(self):
        deal = TRAIL.deal_for(RING, ["b", "a"], 2)
        self.assertEqual(deal, Deal(RING, ["a", "b"], {AB: [0, 2, 5], BC: [0, 2, 5], CA: [0, 2, 5]}, 2))
        self.assertEqual(TrailRule([0, 2, 5], 3).deal_for(wait=5, leaders=("a",), web=Web(["a", "b"], [AB])).last, {AB: (0, 2)})

    def test_deal_for_with_the_greatest_numbers(self):
        web = Web(list("abcdef"), [AB])
        self.assertEqual(TrailRule([40], 10).deal_for(web, ["a"], 1).last, {AB: (40, 50, 60, 70, 80, 90)})
        self.assertEqual(TrailRule([0] * 4, 0).deal_for(web, ["a"], 1).last, {AB: (0,) * 6})

    def test_deal_for_errors_in_the_order_of_the_parameters(self):
        for value in strange_values():
            if not isinstance(value, Web):
                with self.assertRaises(BadWeb) as caught:
                    TRAIL.deal_for(value, None, None)
                self.assertEqual(caught.exception.part, "web")
        for value in lists_and_no_lists() + [[], ["d"], "a"]:
            with self.assertRaises(BadLeaders):
                TRAIL.deal_for(RING, value, None)
        for value in NO_NUMBERS + [0, 6]:
            with self.assertRaises(BadNumber) as caught:
                TRAIL.deal_for(LINE, ["a"], value)
            self.assertEqual(caught.exception.number, value)


class TestWayRule(unittest.TestCase):
    def test_properties(self):
        self.assertEqual((WAY.constant, WAY.per_near, WAY.per_far, WAY.per_party), (1, 2, 3, 4))
        rule = WayRule(per_party=5, per_far=0, per_near=5, constant=0)
        self.assertEqual((rule.constant, rule.per_near, rule.per_far, rule.per_party), (0, 5, 0, 5))

    def test_what_makes_no_rule(self):
        names = ("constant", "per_near", "per_far", "per_party")
        for at, name in enumerate(names):
            for value in NO_NUMBERS + [6]:
                with self.assertRaises(BadRule) as caught:
                    WayRule(*([0] * at + [value] + [None] * (3 - at)))
                self.assertEqual(caught.exception.part, name)

    def test_equal(self):
        self.assertEqual(WAY, WayRule(1, 2, 3, 4))
        for other in (WayRule(0, 2, 3, 4), WayRule(1, 0, 3, 4), WayRule(1, 2, 0, 4), WayRule(1, 2, 3, 0)):
            self.assertNotEqual(WAY, other)
        for value in values_not_equal_to(WAY) + [TRAIL]:
            self.assertFalse(WAY == value)
            self.assertTrue(WAY != value)

    def test_deal_for(self):
        web = Web(ALL, [AB, BC, CA, BA])
        # From b two ways lead to a, of lengths 1 and 2; from c one, of length 1.
        deal = WAY.deal_for(web, "a", 2)
        self.assertEqual(deal, Deal(web, ["a"], {AB: [21] * 3, BA: [13] * 3, BC: [18] * 3, CA: [13] * 3}, 2))
        self.assertEqual(WayRule(0, 1, 0, 0).deal_for(wait=1, leader="a", web=RING).last, {AB: (2,) * 3, BC: (1,) * 3, CA: (0,) * 3})
        # The leader need not stand in each ring.
        self.assertEqual(WAY.deal_for(web, "c", 2).leaders, ("c",))
        self.assertEqual(WAY.deal_for(web, "c", 2).last[AB], (1 + 2 + 3 + 12,) * 3)

    def test_deal_for_with_the_greatest_numbers(self):
        parties = list("abcdef")
        web = Web(parties, list(zip(parties, parties[1:] + parties[:1])))
        self.assertEqual(WayRule(5, 5, 5, 5).deal_for(web, "a", 5).last[AB], (85,) * 6)

    def test_numbers_by_ways(self):
        rule = WayRule(5, 4, 3, 2)
        for web in webs_of(3) + webs_of(4)[::3]:
            for leader in web.parties if is_tied(web) else []:
                deal = rule.deal_for(web, leader, 1)
                self.assertEqual((deal.web, deal.leaders, deal.wait), (web, (leader,), 1))
                for handing in web.handings:
                    near, far = nearest(web, handing[1], leader), farthest(web, handing[1], leader)
                    number = 5 + 4 * near + 3 * far + 2 * len(web.parties)
                    self.assertEqual(deal.last[handing], (number,) * len(web.parties))

    def test_deal_for_errors_in_the_order_of_the_parameters(self):
        for value in strange_values() + [LINE, RING.without(AB), RING.parties]:
            with self.assertRaises(BadWeb) as caught:
                WAY.deal_for(value, None, None)
            self.assertEqual(caught.exception.part, "web")
        for value in strange_values() + ["d", ("a",), ["a"]]:
            with self.assertRaises(NoParty) as caught:
                WAY.deal_for(RING, value, None)
            self.assertEqual(caught.exception.party, value)
        for value in NO_NUMBERS + [0, 6]:
            with self.assertRaises(BadNumber) as caught:
                WAY.deal_for(RING, "a", value)
            self.assertEqual(caught.exception.number, value)


class TestExamples(unittest.TestCase):
    def test_trail_rules_that_just_hold(self):
        for wait in range(1, 6):
            rule = TrailRule([0], wait)
            self.assertIsNone(least_losing(rule, wait))
            self.assertIsNone(losing_web(rule, wait))
            self.assertIsNone(least_stuck(rule, wait))
            self.assertEqual(most_wait(rule), wait)
            self.assertEqual(least_losing(TrailRule([0], wait - 1), wait), 2)

    def test_trail_rules_by_which_somebody_loses_later(self):
        self.assertEqual(least_losing(TrailRule([0, 1, 2, 3], 0), 1), 5)
        self.assertEqual(least_losing(TrailRule([0, 1, 2, 2], 5), 1), 4)
        self.assertEqual(least_losing(TrailRule([0, 1, 1, 9], 5), 1), 3)
        self.assertEqual(least_losing(TrailRule([0, 0, 9, 12], 5), 1), 2)
        self.assertEqual(least_losing(TrailRule([0, 5], 4), 5), 3)

    def test_most_wait(self):
        self.assertEqual(most_wait(TrailRule([0, 5, 9, 13], 10)), 4)
        self.assertEqual(most_wait(TrailRule([0, 5, 9, 13], 3)), 3)
        self.assertEqual(most_wait(TrailRule([0, 10, 20, 30], 10)), 5)
        self.assertEqual(most_wait(TrailRule([4, 4], 5)), 0)
        self.assertEqual(most_wait(TrailRule([5, 4], 5)), 0)
        self.assertEqual(most_wait(TrailRule([5], 0)), 0)
        self.assertEqual([most_wait(WayRule(0, 0, far, 0)) for far in range(6)], list(range(6)))
        self.assertEqual(most_wait(WayRule(5, 5, 0, 5)), 0)
        # The shortest ways grow shorter without end while the longest grow by one.
        self.assertEqual(most_wait(WayRule(5, 1, 5, 5)), 0)

    def test_trail_rules_that_get_stuck(self):
        self.assertEqual(least_stuck(TrailRule([40], 0), 1), 42)
        self.assertEqual(least_stuck(TrailRule([40], 4), 5), 42)
        self.assertEqual(least_stuck(TrailRule([0], 0), 1), 2)
        self.assertEqual(least_stuck(TrailRule([0, 5, 9, 40], 0), 5), 3)
        self.assertEqual(least_stuck(TrailRule([0, 5, 10, 40], 0), 5), 10)
        self.assertEqual(least_stuck(TrailRule([0, 5, 10, 40], 4), 5), 30)
        self.assertIsNone(least_stuck(TrailRule([0, 5, 10, 40], 5), 5))
        self.assertIsNone(least_stuck(TrailRule([40], 5), 5))

    def test_way_rules(self):
        self.assertEqual(least_losing(WayRule(0, 0, 0, 0), 1), 2)
        self.assertEqual(least_losing(WayRule(5, 5, 5, 5), 1), 4)
        self.assertEqual(least_losing(WayRule(5, 1, 5, 0), 1), 8)
        self.assertEqual(least_losing(WayRule(0, 1, 5, 0), 2), 7)
        self.assertEqual(least_losing(WayRule(0, 1, 5, 0), 3), 6)
        self.assertIsNone(least_losing(WayRule(0, 0, 3, 0), 3))
        self.assertEqual(least_losing(WayRule(0, 0, 3, 0), 4), 2)
        self.assertEqual(least_losing(WayRule(0, 3, 0, 0), 4), 2)
        self.assertEqual(least_losing(WayRule(0, 3, 0, 0), 3), 3)

    def test_no_web_with_more_than_six_parties_is_told(self):
        self.assertIsNone(losing_web(WayRule(5, 1, 5, 0), 1))
        self.assertIsNone(losing_web(WayRule(0, 1, 5, 0), 2))
        self.assertEqual(len(losing_web(WayRule(0, 1, 5, 0), 3)[0].parties), 6)

    def test_way_rules_that_get_stuck(self):
        self.assertEqual(least_stuck(WayRule(5, 0, 0, 4), 5), 11)
        self.assertIsNone(least_stuck(WayRule(5, 0, 0, 5), 5))
        self.assertIsNone(least_stuck(WayRule(0, 3, 2, 0), 5))
        self.assertEqual(least_stuck(WayRule(0, 2, 2, 0), 5), 2)
        self.assertEqual(least_stuck(WayRule(3, 2, 2, 0), 5), 5)
        self.assertIsNone(least_stuck(WayRule(0, 0, 0, 1), 1))
        self.assertEqual(least_stuck(WayRule(0, 0, 0, 1), 2), 3)
        self.assertEqual(least_stuck(WayRule(5, 0, 0, 0), 1), 7)


class TestAgainstSmallWebs(unittest.TestCase):
    TRAIL_RULES = [TrailRule(listed, growth) for listed, growth in (
        ([0], 0), ([40], 10), ([0], 1), ([0, 2], 2), ([3, 2], 9), ([0, 2, 4], 1), ([0, 2, 4, 3], 2), ([0, 2, 3, 5], 2),
        ([1, 9, 11], 0), ([0, 2, 4, 6], 1), ([0, 0], 5), ([0, 1, 9], 9))]

    def losing_by(self, rule, wait, many):
        """Whether in some web of so many parties some party can lose with one to three leaders."""
        return any(in_danger(rule.deal_for(web, lot, wait)) for web in webs_of(many) for lot in leader_lots(web))

    def test_there_are_webs_of_all_sorts(self):
        self.assertEqual([len(webs_of(many)) for many in SIZES], [2, 15, 217])
        self.assertTrue(all({len(lot) for _, lot in tied_with_leaders(many)} == {1, 2, 3} for many in (3, 4)))

    def test_least_losing_by_trail_rules(self):
        for rule, wait in itertools.product(self.TRAIL_RULES, (1, 2)):
            told = least_losing(rule, wait)
            for many in SIZES:
                if told is None or told >= many:
                    self.assertIs(self.losing_by(rule, wait, many), told == many)

    def test_losing_web(self):
        chance = random.Random(80)
        rules = [(TrailRule([chance.randint(0, 4) + 2 * k for k in range(chance.randint(1, 4))], chance.randint(0, 3)),
                  chance.randint(1, 3)) for _ in range(150)]
        rules += [(WayRule(*[chance.randint(0, 5) for _ in range(4)]), chance.randint(1, 5)) for _ in range(150)]
        sizes = set()
        for rule, wait in rules:
            told, many = losing_web(rule, wait), least_losing(rule, wait)
            sizes.add((type(rule), many))
            self.assertEqual(told is None, many is None or many > 6)
            if told is not None:
                self.check_losing_web(rule, wait, told, many)
        self.assertTrue({(TrailRule, many) for many in (2, 3, 4, 5, None)} <= sizes)
        self.assertTrue({(WayRule, many) for many in (2, 3, 4, 5, None)} <= sizes)

    def check_losing_web(self, rule, wait, told, many):
        self.assertIs(type(told), tuple)
        web, leaders, party = told
        self.assertEqual(len(web.parties), many)
        self.assertIs(type(leaders), tuple)
        if isinstance(rule, WayRule):
            self.assertTrue(is_tied(web))
            self.assertEqual(len(leaders), 1)
            self.assertTrue(all(leaders[0] in ring for ring in rings(web)))
            self.assertTrue(can_lose(rule.deal_for(web, leaders[0], wait), party))
        else:
            self.assertTrue(can_lose(rule.deal_for(web, leaders, wait), party))

    def test_least_stuck_by_trail_rules(self):
        chance = random.Random(81)
        for rule, wait in itertools.product(self.TRAIL_RULES, (1, 2, 4)):
            told = least_stuck(rule, wait)
            for many in SIZES:
                if told is None or told >= many:
                    pairs = tied_with_leaders(many) if many < 4 else chance.sample(tied_with_leaders(many), 60)
                    found = any(not goes_through(rule.deal_for(web, lot, wait)) for web, lot in pairs)
                    self.assertTrue(not found or told == many)
                    if many < 4:
                        self.assertIs(found, told == many)

    def test_trail_rules_in_rings_of_any_length(self):
        # In a ring with one leader a trail is shown wait ticks later with each party, and answered by the next one.
        chance = random.Random(82)
        for _ in range(300):
            rule = TrailRule([chance.randint(0, 40) for _ in range(chance.randint(1, 4))], chance.randint(0, 5))
            wait = chance.randint(1, 5)
            late = [many for many in range(2, 60) if any(wait * k > rule.until(k) for k in range(many))]
            self.assertEqual(least_stuck(rule, wait), min(late, default=None))
            losing = [many for many in range(2, 60) if any(rule.until(k) + wait > rule.until(k + 1) for k in range(many - 1))]
            self.assertEqual(least_losing(rule, wait), min(losing, default=None))

    def test_way_rules_in_small_webs(self):
        # Here the deals themselves are asked, in all tied webs with one leader who stands in each ring.
        pairs = {many: [(web, lot) for web, lot in tied_with_leaders(many) if len(lot) == 1] for many in SIZES}
        chance = random.Random(83)
        for _ in range(25):
            rule = WayRule(*[chance.choice([0, 0, 1, 2, 5]) for _ in range(4)])
            wait = chance.randint(1, 5)
            losing, stuck = least_losing(rule, wait), least_stuck(rule, wait)
            for many in SIZES:
                deals = [rule.deal_for(web, lot[0], wait) for web, lot in pairs[many]]
                if losing is None or losing >= many:
                    self.assertIs(any(in_danger(deal) for deal in deals), losing == many)
                if stuck is None or stuck >= many:
                    self.assertIs(not all(goes_through(deal) for deal in deals), stuck == many)

    def test_way_rules_in_all_webs_of_up_to_five(self):
        rules = [WayRule(*row) for row in itertools.product((0, 2, 5), (0, 1, 3, 5), (0, 1, 2, 4, 5), (0, 1, 4, 5))]
        for rule, wait in itertools.product(rules, (1, 2, 3, 5)):
            losing, stuck = least_losing(rule, wait), least_stuck(rule, wait)
            for many in (2, 3, 4, 5):
                if losing is None or losing >= many:
                    self.assertIs(any(web.somebody_loses(rule, wait) for web in wide_webs(many)), losing == many)
                if stuck is None or stuck >= many:
                    self.assertIs(any(web.is_stuck(rule, wait) for web in wide_webs(many)), stuck == many)

    def test_way_rules_in_drawn_webs_of_more_parties(self):
        chance = random.Random(84)
        webs = []
        while len(webs) < 300:
            many = chance.randint(6, 10)
            pairs = [(p, q) for p in range(many) for q in range(many) if p != q and (p < q or q == 0)]
            web = WideWeb(many, [pair for pair in pairs if chance.random() < 0.4])
            webs += [web] if web.is_tied() else []
        for _ in range(200):
            rule = WayRule(*[chance.randint(0, 5) for _ in range(4)])
            wait = chance.randint(1, 5)
            losing, stuck = least_losing(rule, wait), least_stuck(rule, wait)
            for web in webs:
                self.assertFalse(web.somebody_loses(rule, wait) and (losing is None or losing > web.many))
                self.assertFalse(web.is_stuck(rule, wait) and (stuck is None or stuck > web.many))

    def test_way_rules_that_need_many_parties(self):
        # A ring in which one party hands to the leader, too; and a ring alone.
        for row in itertools.product((0, 1, 5), range(6), range(6), range(6)):
            rule = WayRule(*row)
            for wait in range(1, 6):
                losing, stuck = least_losing(rule, wait), least_stuck(rule, wait)
                for many in [] if losing is None else [losing, losing + 1]:
                    ring = [(p, (p + 1) % many) for p in range(many)]
                    self.assertTrue(WideWeb(many, sorted(set(ring + [(1, 0)]))).somebody_loses(rule, wait))
                if stuck is not None:
                    ring = WideWeb(stuck, [(p, (p + 1) % stuck) for p in range(stuck)])
                    self.assertTrue(ring.is_stuck(rule, wait))

    def test_most_wait(self):
        rules = self.TRAIL_RULES + [WayRule(*row) for row in itertools.product((0, 3), (0, 1, 4), range(6), (0, 5))]
        for rule in rules:
            waits = [wait for wait in range(1, 6) if least_losing(rule, wait) is None]
            self.assertEqual(most_wait(rule), max(waits, default=0))
            # Who loses with a wait loses with a longer one.
            self.assertEqual(waits, list(range(1, len(waits) + 1)))


class TestArguments(unittest.TestCase):
    USES = (least_losing, losing_web, least_stuck)

    def test_by_name_and_equal_arguments(self):
        for use in self.USES:
            for rule, same in ((TrailRule([0, 1, 1], 2), TrailRule((0, 1, 1), 2)), (WayRule(0, 1, 0, 0), WayRule(0, 1, 0, 0))):
                self.assertEqual(use(wait=1, rule=rule), use(same, 1))
        self.assertEqual(most_wait(rule=TRAIL), 2)

    def test_what_is_no_rule(self):
        for value in strange_values() + [RING, [0, 1], TRAIL.listed]:
            for use in (most_wait, *[lambda rule, use=use: use(rule, None) for use in self.USES]):
                with self.assertRaises(BadRule) as caught:
                    use(value)
                self.assertEqual(caught.exception.part, "rule")

    def test_what_is_no_wait(self):
        for use, rule in itertools.product(self.USES, (TRAIL, WAY)):
            for value in NO_NUMBERS + [0, 6]:
                with self.assertRaises(BadNumber) as caught:
                    use(rule, value)
                self.assertEqual(caught.exception.number, value)
                self.assertIs(type(caught.exception.number), type(value))


if __name__ == "__main__":
    unittest.main()

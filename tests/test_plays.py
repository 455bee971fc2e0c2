"""Points 2, 31, 40, 41, 50 and 60: what the program tells of many small deals is what a plain reading finds."""

import itertools
import random
import unittest

from handlocks.courses import is_course, losers, must_show, taken
from handlocks.deals import Deal
from handlocks.keeping import goes_through, harmed, kept_course, last_tick, stopped_course, taken_at
from handlocks.losing import can_lose, in_danger, is_sound, losing_course, mended, slack, slips
from handlocks.webs import Web
from tests import helper
from tests.helper import plain_is_laying

# All possibilities of these are gone through, with all layings and all keepers.
TINY = helper.some_deals([2, 3, 3], 4, 40, 60, 1) + helper.some_deals([4], 3, 6, 30, 2)
# All possibilities of these are gone through, with each party as the only keeper.
SMALL = helper.some_deals([2, 3, 3, 3, 4], 6, 220, 1500, 3)
# Of these, possibilities are drawn.
WIDE = helper.some_deals([3, 4], 10, 200, 10 ** 12, 4)


def all_layings(deal):
    return [[]] + [list(row) for row in helper.all_rows(deal.web.parties)]


def some_play(chance, deal, laying):
    """Some list of shows: mostly in time, laid and each word shown once at a handing."""
    slots = helper.slots_of(deal, laying)
    shows = {chance.choice(slot[-2:] if chance.random() < 0.5 else slot) for slot in slots} - {None}
    return sorted(shows)


def changed(chance, deal, shows):
    """The shows, but for one that is left out, comes at another tick or with another trail, or for one more."""
    shows = list(shows)
    others = [show for slot in helper.slots_of(deal, deal.web.parties) for show in slot if show is not None]
    if shows and chance.random() < 0.7:
        tick, handing, trail = shows.pop(chance.randrange(len(shows)))
        if chance.random() < 0.6:
            shows.append((max(0, tick + chance.choice([-1, 1])), handing, trail))
    elif others:
        shows.append(chance.choice(others))
    return sorted(set(shows))


class TestDealsAreOfAllSorts(unittest.TestCase):
    def test_sorts(self):
        for deals in (TINY, SMALL, WIDE):
            self.assertEqual({len(deal.leaders) for deal in deals} | {3}, {1, 2, 3})
            self.assertEqual({goes_through(deal) for deal in deals}, {True, False})
            self.assertEqual({is_sound(deal) for deal in deals}, {True, False})
            self.assertTrue({3, 4} <= {len(deal.web.parties) for deal in deals})
        self.assertIn(3, {len(deal.leaders) for deal in SMALL})
        sorts = {(goes_through(deal), bool(slips(deal, party)), can_lose(deal, party))
                 for deal in SMALL for party in deal.web.parties}
        self.assertEqual(sorts, {(True, True, True), (True, False, False), (False, True, True), (False, True, False),
                                 (False, False, False)})


class TestCourses(unittest.TestCase):
    def check_courses(self, deal, laying, shows):
        """All that courses tell, for all keepers; whether it is a course of no keepers."""
        lots = helper.all_lots(deal.web.parties)
        told = {lot: is_course(deal, list(lot), (laying, shows)) for lot in lots}
        for lot in lots:
            self.assertIs(told[lot], helper.plain_is_course(deal, lot, laying, shows))
        # A course of some keepers is one of any fewer of them.
        for lot, other in itertools.product(lots, lots):
            self.assertTrue(told[other] or not told[lot] or not set(other) <= set(lot))
        if told[()]:
            self.assertEqual(taken(deal, (laying, shows)), helper.plain_taken(deal, laying, shows))
            self.assertEqual(losers(deal, (laying, shows)), helper.plain_losers(deal, laying, shows))
            for party in deal.web.parties:
                self.assertEqual(must_show(deal, (laying, shows), party), helper.plain_must(deal, laying, shows, party))
        return told[()]

    def test_all_possibilities(self):
        for deal in TINY:
            for laying in all_layings(deal):
                for shows in helper.all_plays(deal, laying):
                    # If all are free, a trail of a handing is always known to its taker.
                    self.assertTrue(self.check_courses(deal, laying, shows))

    def test_what_keepers_make_of_some_possibilities(self):
        chance = random.Random(5)
        found = set()
        for deal in SMALL[::2] + WIDE:
            for lot in helper.all_lots(deal.web.parties)[::2]:
                laying = chance.sample(deal.web.parties, len(deal.web.parties))
                free = [show for show in some_play(chance, deal, laying) if show[1][1] not in lot]
                shows = helper.plain_answered(deal, laying, free, lot)
                self.check_courses(deal, laying, shows)
                if plain_is_laying(deal.web, deal.leaders, lot, laying):
                    # Then only what free parties cannot know makes it none.
                    found.add((len(lot), is_course(deal, lot, (laying, shows))))
        self.assertTrue({(1, True), (1, False), (2, True), (2, False), (3, True), (3, False)} <= found)

    def test_courses_that_were_changed(self):
        chance = random.Random(6)
        for deal in SMALL[::2] + WIDE[::2]:
            courses = [kept_course(deal)] + [losing_course(deal, party) for party in in_danger(deal)]
            courses += [stopped_course(deal, party, 2) for party in deal.web.parties]
            for laying, shows in courses:
                self.check_courses(deal, laying, shows)
                self.check_courses(deal, laying, changed(chance, deal, shows))
                self.check_courses(deal, laying[::-1], shows)
                self.check_courses(deal, laying[:-1], shows)


class TestLosing(unittest.TestCase):
    def check_course(self, deal, party, course):
        laying, shows = course
        self.assertEqual(sorted(set(shows)), shows)
        self.assertTrue(helper.plain_is_course(deal, [party], laying, shows))
        self.assertIn(party, helper.plain_losers(deal, laying, shows))
        self.assertTrue(is_course(deal, [party], course))

    def test_all_possibilities(self):
        by_itself = 0
        for deal in SMALL:
            for party in deal.web.parties:
                expected = helper.plain_can_lose(deal, party)
                self.assertIs(can_lose(deal, party), expected)
                course = losing_course(deal, party)
                self.assertIs(course is not None, expected)
                if expected:
                    self.check_course(deal, party, course)
                    by_itself += any(party in trail and handing[1] != party for tick, handing, trail in course[1])
        self.assertGreater(by_itself, 0)

    def test_no_laying_is_left_out(self):
        # Going through all layings, and not just those in which the party lays last, finds nothing more.
        for deal in TINY:
            for party in deal.web.parties:
                found = [laying for laying in all_layings(deal) for shows in helper.lone_courses(deal, party, laying)
                         if party in helper.plain_losers(deal, laying, shows)]
                self.assertIs(can_lose(deal, party), bool(found))

    def test_at_the_outs(self):
        # Whoever has slips in larger deals, with what is shown at its outs; many have two and three leaders.
        chance = random.Random(7)
        found = []
        while len(found) < 250:
            deal = helper.some_deal(chance, list("abcde")[:chance.choice([3, 3, 4, 4, 5])], 10)
            for party in deal.web.parties:
                slots = helper.slots_at_outs(deal, party)
                if slips(deal, party) and len(deal.leaders) > 1 and sum(len(slot) for slot in slots) < 25:
                    expected = helper.plain_loses_at_outs(deal, party)
                    found.append(expected)
                    self.assertIs(can_lose(deal, party), expected)
                    if expected:
                        self.check_course(deal, party, losing_course(deal, party))
        self.assertTrue({True, False} <= set(found))

    def test_only_by_the_keeper_itself(self):
        # Two leaders to whom b hands, and one of whom hears of the other by b alone; numbers of all sorts.
        web = Web(["b", "x", "z"], [("b", "x"), ("b", "z"), ("x", "b"), ("z", "b")])
        chance = random.Random(8)
        found = []
        for _ in range(300):
            last = {handing: [chance.randint(-1, 3) for _ in range(3)] for handing in web.handings}
            last["b", "z"][2] = -1
            deal = Deal(web, ["x", "z"], last, 1)
            expected = helper.plain_loses_at_outs(deal, "b")
            found.append(expected)
            self.assertIs(can_lose(deal, "b"), expected)
            if expected:
                self.check_course(deal, "b", losing_course(deal, "b"))
        self.assertGreater(found.count(True), 20)
        self.assertGreater(found.count(False), 20)

    def test_facts(self):
        for deal in SMALL + WIDE:
            through = goes_through(deal)
            for party in deal.web.parties:
                found = can_lose(deal, party)
                if not slips(deal, party) or deal.leaders == (party,):
                    self.assertFalse(found)
                elif through:
                    self.assertTrue(found)
            danger = tuple(party for party in deal.web.parties if can_lose(deal, party))
            self.assertEqual(in_danger(deal), danger)
            self.assertIs(is_sound(deal), danger == ())

    def test_with_further_keepers_it_loses_in_no_other_deals(self):
        for deal in TINY:
            lots = helper.all_lots(deal.web.parties)
            for laying in all_layings(deal):
                for shows in helper.all_plays(deal, laying):
                    for party in helper.plain_losers(deal, laying, shows):
                        if any(party in lot and helper.plain_is_course(deal, lot, laying, shows) for lot in lots):
                            self.assertTrue(can_lose(deal, party))

    def plain_margins(self, deal, party):
        """From all pairs of a trail and an in to by how much the answer is in time."""
        found = {}
        for out in deal.web.outs(party):
            for leader in deal.leaders:
                for trail in helper.plain_trails(deal, out, leader):
                    shown = deal.last[out][len(trail) - 1]
                    if party not in trail and shown != -1:
                        for handing in deal.web.ins(party):
                            found[trail, handing] = deal.last[handing][len(trail)] - shown - deal.wait
        return found

    def test_slips_and_slack(self):
        for deal in SMALL + WIDE:
            for party in deal.web.parties:
                found = self.plain_margins(deal, party)
                self.assertEqual(slips(deal, party), sorted(pair for pair in found if found[pair] < 0))
                self.assertEqual(slack(deal, party), min(found.values(), default=None))

    def test_mended(self):
        for deal in SMALL + WIDE:
            for party in deal.web.parties:
                better = mended(deal, party)
                self.assertEqual(slips(better, party), [])
                self.assertFalse(can_lose(better, party))
                self.assertEqual((better.web, better.leaders, better.wait), (deal.web, deal.leaders, deal.wait))
                self.check_raised(deal, better, party)

    def check_raised(self, deal, better, party):
        """No number is lower, and each that is higher cannot be one less."""
        for handing in deal.web.handings:
            for length, (old, new) in enumerate(zip(deal.last[handing], better.last[handing])):
                self.assertGreaterEqual(new, old)
                if new > old:
                    self.assertEqual(handing[1], party)
                    self.assertTrue(slips(better.with_last(handing, length, new - 1), party))


class TestKeeping(unittest.TestCase):
    def test_kept_course(self):
        for deal in SMALL + WIDE:
            course = kept_course(deal)
            self.assertEqual(course, helper.plain_kept_course(deal))
            self.assertTrue(helper.plain_is_course(deal, deal.web.parties, *course))

    def test_there_is_just_one_course_of_all_with_a_laying(self):
        for deal in TINY:
            for laying in all_layings(deal):
                if plain_is_laying(deal.web, deal.leaders, deal.web.parties, laying):
                    found = [shows for shows in helper.all_plays(deal, laying)
                             if helper.plain_is_course(deal, deal.web.parties, laying, shows)]
                    self.assertEqual(len(found), 1)
                    if laying == kept_course(deal)[0]:
                        self.assertEqual(found, [kept_course(deal)[1]])

    def test_who_can_lay_does(self):
        for deal in SMALL + WIDE:
            laying = kept_course(deal)[0]
            for party in deal.web.parties:
                if party not in laying:
                    self.assertFalse(is_course(deal, deal.web.parties, (laying + [party], kept_course(deal)[1])))
                    self.assertFalse(plain_is_laying(deal.web, deal.leaders, deal.web.parties, laying + [party]))

    def test_taken_at(self):
        for deal in SMALL + WIDE:
            laying, shows = kept_course(deal)
            gone = helper.plain_taken(deal, laying, shows)
            expected = {handing: None for handing in deal.web.handings}
            for tick, handing, trail in shows:
                if handing in gone:
                    expected[handing] = tick
            self.assertEqual(taken_at(deal), expected)
            self.assertIs(goes_through(deal), gone == deal.web.handings)
            self.assertEqual(last_tick(deal), None if None in expected.values() else max(expected.values()))

    def test_stopped_course(self):
        for deal in SMALL + WIDE:
            laying = kept_course(deal)[0]
            for party, tick in itertools.product(deal.web.parties, (0, 1, 2, 3, 99)):
                told = stopped_course(deal, party, tick)
                self.assertEqual(told[0], laying)
                others = [other for other in deal.web.parties if other != party]
                self.assertTrue(helper.plain_is_course(deal, others, *told))
                own = [show for show in told[1] if show[1][1] == party]
                due = helper.plain_must(deal, *told, party)
                self.assertEqual(own, [show for show in due if show[0] < tick])

    def test_harmed(self):
        for deal in SMALL[::4] + WIDE[::4]:
            for party in deal.web.parties:
                found = set()
                for tick in list(range(12)) + [99]:
                    found |= set(helper.plain_losers(deal, *stopped_course(deal, party, tick))) - {party}
                self.assertEqual(harmed(deal, party), tuple(sorted(found)))

    def test_a_sound_deal_harms_nobody(self):
        for deal in SMALL + WIDE:
            for party in deal.web.parties:
                self.assertTrue(set(harmed(deal, party)) <= set(in_danger(deal)))

    def test_equal_arguments_give_equal_results(self):
        for deal in SMALL[::3]:
            last = {handing: list(deal.last[handing]) for handing in reversed(list(deal.last))}
            same = Deal(Web(list(deal.web.parties)[::-1], list(deal.web.handings)[::-1]), list(deal.leaders)[::-1], last, deal.wait)
            self.assertEqual(same, deal)
            for use in (in_danger, kept_course, taken_at):
                self.assertEqual(use(same), use(deal))
            for party in deal.web.parties:
                for use in (slips, losing_course, mended, harmed):
                    self.assertEqual(use(same, party), use(deal, party))


if __name__ == "__main__":
    unittest.main()

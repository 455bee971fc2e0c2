"""Point 120: late courses, who can lose when shows are seen sooner or later, and how late a party may see them."""

import copy
import itertools
import random
import unittest

from handlocks.courses import is_course
from handlocks.deals import Deal
from handlocks.errors import BadDeal, BadKeepers, BadNumber, NoParty
from handlocks.keeping import goes_through, kept_course
from handlocks.late import bears, can_lose_late, is_late_course, late_losing_course
from handlocks.losing import can_lose, losing_course, slack, slips
from handlocks.rules import TrailRule
from handlocks.webs import Web
from tests import helper
from tests.helper import LINE, RING, all_handings, deal_of, lists_and_no_lists, strange_values

AB, BC, CA, BA, BD, CD, CB = ("a", "b"), ("b", "c"), ("c", "a"), ("b", "a"), ("b", "d"), ("c", "d"), ("c", "b")
ALL = ["a", "b", "c"]
DEAL = TrailRule([0, 2, 4], 0).deal_for(RING, ["a"], 2)
OPEN = deal_of(RING, ["a"], [9, 9, 9], 2)
KEPT = [(0, CA, ("a",)), (2, BC, ("c", "a")), (4, AB, ("b", "c", "a"))]
SEEN = {KEPT[0]: 2, KEPT[1]: 2, KEPT[2]: 1}
FORKED = deal_of(Web(list("abcd"), [AB, BC, BD, CD]), ["d"], [9, 9, 9, 9], 1)
NO_LATE = [0, 100, -1, 10 ** 999, -10 ** 999, None, True, False, "1", "", [1], (1,), {1: 1}, RING]


# Points 40, 41 and 120, read as plainly as can be.


def plain_late_must(deal, laying, shows, seen, party):
    """What the party must show, tick by tick, as if it had shown itself just this."""
    last, laid = deal.last, helper.plain_laid(deal, laying)
    ins = [handing for handing in deal.web.handings if handing[1] == party]
    looks = [(show[0] + seen[show], show[2]) for show in shows if show[1][0] == party]
    done = []
    if party in deal.leaders and all(handing in laid and last[handing][0] >= 0 for handing in ins):
        done += [(0, handing, (party,)) for handing in ins]
    for tick in range(1, 100):
        now = [trail for when, trail in looks if when == tick and party not in trail]
        for handing, leader in itertools.product(ins if now else [], deal.leaders):
            if handing not in laid or any(when < tick and place == handing and trail[-1] == leader for when, place, trail in done):
                continue
            own = [(party,) + trail for trail in now if trail[-1] == leader]
            own = [trail for trail in own if tick <= last[handing][len(trail) - 1]]
            if own:
                done.append((tick, handing, min(own)))
    return sorted(done)


def plain_is_late_course(deal, keepers, late, laying, shows, seen):
    """Whether these are a late course; shows must be an ascending list of triples that look like shows."""
    if not helper.plain_is_laying(deal.web, deal.leaders, keepers, laying) or not helper.plain_can_stand(deal, laying, shows):
        return False
    if set(seen) != {show for show in shows if show[1][0] in keepers}:
        return False
    if not all(1 <= later <= late for later in seen.values()):
        return False
    for tick, handing, trail in shows:
        if handing[1] not in keepers and not helper.plain_is_known(keepers, shows, tick, trail):
            return False
    for party in keepers:
        if [show for show in shows if show[1][1] == party] != plain_late_must(deal, laying, shows, seen, party):
            return False
    return True


def all_seen(shows, keepers, late):
    """All dicts from the shows at outs of these keepers to numbers up to late."""
    told = [show for show in shows if show[1][0] in keepers]
    for chosen in itertools.product(range(1, late + 1), repeat=len(told)):
        yield dict(zip(told, chosen))


def losing_lates(deal, party, greatest, layings):
    """The least late up to the greatest one with which the party loses in some late course, None if there is none.

    All late courses with these layings are gone through in which it is the only keeper.
    """
    least = None
    for laying in layings:
        if not helper.plain_is_laying(deal.web, deal.leaders, [party], laying):
            continue
        for shows in helper.all_plays(deal, laying, party):
            for seen in all_seen(shows, [party], greatest if least is None else least - 1):
                whole = sorted(shows + plain_late_must(deal, laying, shows, seen, party))
                late = max(seen.values(), default=1)
                if (least is None or late < least) and party in helper.plain_losers(deal, laying, whole):
                    if plain_is_late_course(deal, [party], late, laying, whole, seen):
                        least = late
    return least


def greatest_last(deal):
    return max(max(row) for row in deal.last.values())


def many_late_plays(deal, party, late):
    """How many possibilities there are, if all lay."""
    many = 1
    for slot in helper.slots_of(deal, deal.web.parties, party):
        many *= 1 + sum(late if show[1][0] == party else 1 for show in slot if show is not None)
    return many


def some_late_deals(sizes, most, many, limit, seed):
    """Deals with no more than so many possibilities for each party, with as great a late as makes a difference."""
    chance = random.Random(seed)
    found = []
    while len(found) < many:
        deal = helper.some_deal(chance, list("abcd")[:chance.choice(sizes)], most)
        if max(many_late_plays(deal, party, greatest_last(deal) + 1) for party in deal.web.parties) <= limit:
            found.append(deal)
    return found


class LateTest(unittest.TestCase):
    def holds(self, deal, keepers, late, laying, shows, seen):
        self.assertIs(is_late_course(deal, keepers, late, (laying, shows, seen)), True)

    def fails(self, deal, keepers, late, laying, shows, seen):
        self.assertIs(is_late_course(deal, keepers, late, (laying, shows, seen)), False)


class TestIsLateCourse(LateTest):
    def test_all_keepers(self):
        self.holds(OPEN, ALL, 2, ALL, KEPT, SEEN)
        self.holds(OPEN, ALL, 99, ALL, KEPT, SEEN)
        self.fails(OPEN, ALL, 1, ALL, KEPT, SEEN)
        shows = [(0, CA, ("a",)), (1, BC, ("c", "a")), (4, AB, ("b", "c", "a"))]
        self.holds(OPEN, ALL, 3, ALL, shows, {shows[0]: 1, shows[1]: 3, shows[2]: 3})
        self.fails(OPEN, ALL, 3, ALL, shows, {shows[0]: 1, shows[1]: 2, shows[2]: 3})
        self.fails(OPEN, ALL, 2, ALL, shows, {shows[0]: 1, shows[1]: 3, shows[2]: 2})

    def test_wait_does_not_count(self):
        for wait in range(1, 6):
            self.holds(OPEN.with_wait(wait), ALL, 2, ALL, KEPT, SEEN)

    def test_seen_is_of_the_shows_at_outs_of_keepers(self):
        self.holds(OPEN, [], 1, ALL, KEPT, {})
        self.fails(OPEN, [], 2, ALL, KEPT, SEEN)
        self.holds(OPEN, ["c"], 2, ALL, KEPT, {KEPT[0]: 2})
        self.fails(OPEN, ["c"], 2, ALL, KEPT, SEEN)
        self.fails(OPEN, ["c"], 2, ALL, KEPT, {})
        self.fails(OPEN, ["c"], 2, ALL, KEPT, {KEPT[1]: 2})
        self.fails(OPEN, ALL, 2, ALL, KEPT, {show: SEEN[show] for show in KEPT[:2]})
        self.fails(OPEN, ALL, 2, ALL, KEPT, {**SEEN, (5, CA, ("a",)): 1})
        self.fails(OPEN, ["c"], 2, ALL, KEPT, {KEPT[0]: 2, "a": 1})
        self.holds(OPEN, ALL, 1, [], [], {})
        self.fails(OPEN, ALL, 1, [], [], {KEPT[0]: 1})
        self.fails(OPEN, ALL, 1, [], [], [])

    def test_the_order_of_its_keys_has_no_meaning(self):
        self.holds(OPEN, ALL, 2, ALL, KEPT, {show: SEEN[show] for show in reversed(KEPT)})

    def test_what_is_no_number_in_seen(self):
        for value in [0, -1, 3, 10 ** 999, True, None, "1", [1], (1,), {}]:
            self.fails(OPEN, ALL, 2, ALL, KEPT, {**SEEN, KEPT[2]: value})
        self.holds(OPEN, ALL, 2, ALL, KEPT, {**SEEN, KEPT[2]: 2})

    def test_a_bool_is_no_tick(self):
        shows = [(1, CA, ("a",))]
        self.holds(OPEN, ["c"], 20, ALL, shows, {(1, CA, ("a",)): 20})
        self.fails(OPEN, ["c"], 20, ALL, shows, {(True, CA, ("a",)): 20})
        self.fails(OPEN, ["c"], 20, ALL, [(True, CA, ("a",))], {(1, CA, ("a",)): 20})

    def test_a_leader_at_tick_0(self):
        self.holds(OPEN, ["a"], 1, ALL, KEPT[:1], {})
        self.fails(OPEN, ["a"], 1, ALL, [], {})
        self.fails(OPEN, ["a"], 1, ALL, [(1, CA, ("a",))], {})
        self.holds(OPEN, ["a"], 1, ALL[:2], [], {})
        self.holds(OPEN.with_last(CA, 0, -1), ["a"], 1, ALL, [], {})

    def test_free_parties_know_what_they_can(self):
        # c cannot know of the word of a, who keeps the rules, ahead of tick 1.
        shows = [(0, CA, ("a",)), (1, BC, ("c", "a"))]
        self.holds(OPEN, ["a"], 1, ALL, shows, {})
        self.fails(OPEN, ["a"], 1, ALL, [(0, BC, ("c", "a")), (0, CA, ("a",))], {})
        self.holds(OPEN, [], 1, ALL, [(0, BC, ("c", "a")), (0, CA, ("a",))], {})

    def test_laid_in_time_and_once(self):
        self.fails(OPEN, [], 1, ["a"], KEPT, {})
        self.fails(DEAL, [], 1, ALL, [(1, CA, ("a",))], {})
        self.fails(FORKED, [], 1, list("abcd"), [(0, AB, ("b", "c", "d")), (1, AB, ("b", "d"))], {})
        self.fails(OPEN, ["b"], 2, ["b", "a", "c"], KEPT, {KEPT[1]: 2})
        self.fails(OPEN, [], 2, ["a", "a"], [], {})

    def test_shows_seen_at_one_tick(self):
        # Shown at different ticks and seen at one: the least trail counts, and the other one never.
        shows = [(0, BC, ("c", "d")), (2, BD, ("d",)), (3, AB, ("b", "c", "d"))]
        self.holds(FORKED, ["b"], 3, list("abcd"), shows, {shows[0]: 3, shows[1]: 1})
        self.fails(FORKED, ["b"], 3, list("abcd"), shows, {shows[0]: 2, shows[1]: 1})
        shows = [(0, BC, ("c", "d")), (2, BD, ("d",)), (3, AB, ("b", "d"))]
        self.fails(FORKED, ["b"], 3, list("abcd"), shows, {shows[0]: 3, shows[1]: 1})
        self.fails(FORKED, ["b"], 4, list("abcd"), shows, {shows[0]: 2, shows[1]: 1})
        self.holds(FORKED, ["b"], 4, list("abcd"), shows, {shows[0]: 4, shows[1]: 1})

    def test_seen_in_another_order_than_shown(self):
        shows = [(0, BD, ("d",)), (1, BC, ("c", "d")), (2, AB, ("b", "c", "d"))]
        self.holds(FORKED, ["b"], 5, list("abcd"), shows, {shows[0]: 5, shows[1]: 1})
        self.fails(FORKED, ["b"], 5, list("abcd"), shows, {shows[0]: 1, shows[1]: 1})
        for late in range(2, 30):
            shows = [(0, BC, ("c", "d")), (0, BD, ("d",)), (1, AB, ("b", "d"))]
            self.holds(FORKED, ["b"], late, list("abcd"), shows, {shows[0]: late, shows[1]: 1})
            self.fails(FORKED, ["b"], late, list("abcd"), shows, {shows[0]: 1, shows[1]: late})

    def test_the_least_of_those_in_time(self):
        deal = FORKED.with_last(AB, 2, 2)
        shows = [(2, BC, ("c", "d")), (2, BD, ("d",)), (3, AB, ("b", "d"))]
        self.holds(deal, ["b"], 1, list("abcd"), shows, {shows[0]: 1, shows[1]: 1})
        self.holds(deal.with_last(AB, 1, 2), ["b"], 1, list("abcd"), shows[:2], {shows[0]: 1, shows[1]: 1})

    def test_not_with_a_trail_in_which_it_stands_and_not_its_own_word(self):
        deal = deal_of(Web(ALL, [AB, BA, BC, CA]), ["c"], [9, 9, 9], 1)
        shows = [(0, BC, ("c",)), (1, AB, ("b", "c")), (3, BA, ("a", "b", "c"))]
        self.holds(deal, ["b"], 5, ["c", "a", "b"], shows, {shows[0]: 1, shows[2]: 1})
        self.holds(OPEN, ["a"], 5, ALL, [(0, CA, ("a",)), (2, AB, ("b", "c", "a"))], {(2, AB, ("b", "c", "a")): 5})

    def test_what_is_no_late_course(self):
        good = (ALL, KEPT, SEEN)
        self.assertIs(is_late_course(OPEN, ALL, 2, good), True)
        for value in strange_values() + [list(good), good[:2], good + (None,), (ALL, KEPT[::-1], SEEN), (None, KEPT, SEEN),
                                         (ALL, None, SEEN), (ALL, KEPT, None), (ALL, KEPT, list(SEEN)), (ALL, KEPT, ((KEPT, 1),)),
                                         (ALL, KEPT + [None], SEEN), (ALL, [list(show) for show in KEPT], SEEN), (KEPT, ALL, SEEN),
                                         (ALL + ["z"], KEPT, SEEN), (ALL, KEPT + KEPT[-1:], SEEN), OPEN]:
            self.assertIs(is_late_course(OPEN, ALL, 2, value), False)

    def test_tuples_and_by_name(self):
        thing = (tuple(ALL), tuple(KEPT), dict(SEEN))
        before = copy.deepcopy(thing)
        self.assertIs(is_late_course(thing=thing, late=2, keepers=tuple(ALL), deal=OPEN), True)
        self.assertEqual(thing, before)


class TestExamples(LateTest):
    def test_in_a_ring(self):
        self.assertEqual([bears(DEAL, party) for party in ALL], [None, 2, 2])
        for party in "bc":
            self.assertEqual([can_lose_late(DEAL, party, late) for late in (1, 2, 3, 99)], [False, False, True, True])
            self.assertIsNone(late_losing_course(DEAL, party, 2))
        self.assertEqual(late_losing_course(DEAL, "c", 3), (ALL, [(0, CA, ("a",))], {(0, CA, ("a",)): 3}))
        for late in (1, 99):
            self.assertIs(can_lose_late(DEAL, "a", late), False)
            self.assertIsNone(late_losing_course(DEAL, "a", late))

    def test_bears_all_and_nothing(self):
        self.assertIsNone(bears(DEAL, "a"))
        self.assertIsNone(bears(deal_of(LINE, ["c"], [9, 9, 9], 1), "a"))
        self.assertIsNone(bears(deal_of(RING, ["a"], [-1, 9, 9], 1), "c"))
        self.assertEqual(bears(OPEN, "c"), 0)
        self.assertEqual(bears(OPEN.with_last(BC, 1, 5), "c"), 0)
        self.assertIs(can_lose_late(OPEN, "c", 1), True)

    def test_bears_as_much_as_the_numbers_let(self):
        deal = OPEN.with_last(CA, 0, 0).with_last(BC, 1, 99)
        self.assertEqual(bears(deal, "c"), 99)
        self.assertIs(can_lose_late(deal, "c", 99), False)
        deal = deal.with_last(BC, 1, 98)
        self.assertEqual(bears(deal, "c"), 98)
        self.assertIs(can_lose_late(deal, "c", 99), True)
        for tick in range(0, 100, 7):
            self.assertEqual(bears(deal.with_last(BC, 1, tick), "c"), tick)

    def test_somebody_loses_who_cannot_lose_else(self):
        # x shows b its word at tick 0; b can show it at (x, b) up to tick 3, at (z, b) up to 1; and z, who leads, too,
        # can show it at (b, z) up to 3, but only a tick after b has shown it.
        web = Web(["b", "x", "z"], [("b", "x"), ("b", "z"), ("x", "b"), ("z", "b")])
        last = {("b", "x"): [0, 9, -1], ("b", "z"): [0, 9, 3], ("x", "b"): [9, 3, 9], ("z", "b"): [9, 1, 9]}
        deals = [Deal(web, ["x", "z"], last, wait) for wait in (1, 2, 3)]
        self.assertEqual([can_lose(deal, "b") for deal in deals], [False, True, False])
        self.assertEqual([can_lose_late(deals[2], "b", late) for late in (1, 2, 3)], [False, True, True])
        self.assertEqual(bears(deals[2], "b"), 1)
        laying, shows, seen = late_losing_course(deals[2], "b", 3)
        self.assertTrue(plain_is_late_course(deals[2], ["b"], 3, laying, shows, seen))
        self.assertIn(("b", "z"), helper.plain_taken(deals[2], laying, shows))
        self.assertIn((2, ("x", "b"), ("b", "x")), shows)

    def test_kinds_and_new_each_time(self):
        told = late_losing_course(DEAL, "c", 3)
        self.assertEqual([type(part) for part in told], [list, list, dict])
        self.assertIs(type(told), tuple)
        for part in told:
            part.clear()
        self.assertEqual(late_losing_course(late=3, party="c", deal=DEAL), (ALL, [(0, CA, ("a",))], {(0, CA, ("a",)): 3}))

    def test_by_name_and_equal_arguments(self):
        same = Deal(Web(("c", "b", "a"), (CA, BC, AB)), ("a",), {h: list(DEAL.last[h]) for h in reversed(list(DEAL.last))}, 2)
        self.assertIs(can_lose_late(late=3, party="b", deal=same), True)
        self.assertEqual(bears(party="b", deal=same), 2)
        for party, late in itertools.product(ALL, (1, 3, 99)):
            self.assertEqual(late_losing_course(same, party, late), late_losing_course(DEAL, party, late))


class TestErrors(LateTest):
    def test_what_is_no_deal(self):
        for value in strange_values() + [RING, DEAL.last]:
            for use in (lambda deal: is_late_course(deal, None, None, None), lambda deal: can_lose_late(deal, None, None),
                        lambda deal: late_losing_course(deal, None, None), lambda deal: bears(deal, None)):
                with self.assertRaises(BadDeal) as caught:
                    use(value)
                self.assertEqual(caught.exception.part, "deal")

    def test_what_are_no_keepers(self):
        for value in lists_and_no_lists() + [["d"], ["a", "a"], "a", "abc", {"a": 1}]:
            with self.assertRaises(BadKeepers) as caught:
                is_late_course(DEAL, value, None, None)
            self.assertTrue(str(caught.exception))

    def test_what_is_no_party(self):
        for value in strange_values() + ["d", ("a",), ["a"], DEAL]:
            for use in (lambda party: can_lose_late(DEAL, party, None), lambda party: late_losing_course(DEAL, party, None),
                        lambda party: bears(DEAL, party)):
                with self.assertRaises(NoParty) as caught:
                    use(value)
                self.assertEqual(caught.exception.party, value)

    def test_what_is_no_late(self):
        for value in NO_LATE:
            for use in (lambda late: is_late_course(DEAL, [], late, None), lambda late: can_lose_late(DEAL, "a", late),
                        lambda late: late_losing_course(DEAL, "a", late)):
                with self.assertRaises(BadNumber) as caught:
                    use(value)
                self.assertEqual(caught.exception.number, value)
                self.assertIs(type(caught.exception.number), type(value))

    def test_the_least_and_the_greatest_late(self):
        for late in (1, 99):
            self.assertIs(is_late_course(DEAL, [], late, ([], [], {})), True)


class TestAgainstPlainReading(LateTest):
    # All possibilities of these are gone through, with each party as the only keeper.
    SMALL = some_late_deals([2, 3, 3, 3], 5, 150, 8000, 120)
    TINY = some_late_deals([2, 3], 4, 60, 400, 121)
    WIDE = helper.some_deals([3, 4, 4], 10, 250, 10 ** 12, 122) + [
        deal_of(Web(ALL, all_handings(ALL)), ALL, [0, 1, 2], 1), deal_of(Web(ALL, all_handings(ALL)), ["a", "b"], [1, 3, 4], 2)]

    def check_party(self, deal, party, least):
        """What is told of a party that loses with this late at the least, or never."""
        self.assertEqual(bears(deal, party), None if least is None else least - 1)
        for late in (1, 2, 3, 4, 99):
            expected = least is not None and least <= late
            self.assertIs(can_lose_late(deal, party, late), expected)
            self.check_losing_course(deal, party, late, expected)

    def check_losing_course(self, deal, party, late, expected):
        course = late_losing_course(deal, party, late)
        self.assertIs(course is not None, expected)
        if expected:
            laying, shows, seen = course
            self.assertTrue(plain_is_late_course(deal, [party], late, laying, shows, seen))
            self.assertTrue(is_late_course(deal, [party], late, course))
            self.assertIn(party, helper.plain_losers(deal, laying, shows))
            self.assertEqual(shows, sorted(set(shows)))
            self.assertEqual(list(seen), sorted(seen))

    def test_all_possibilities(self):
        found = set()
        for deal in self.SMALL:
            for party in deal.web.parties:
                laying = helper.behind_the_others(deal.web.parties, party)
                least = losing_lates(deal, party, greatest_last(deal) + 1, [laying])
                found.add((len(deal.leaders), least))
                self.check_party(deal, party, least)
        self.assertTrue({(1, 1), (1, 2), (1, 3), (1, None), (2, 1), (2, 2), (2, None)} <= found)

    def test_no_laying_is_left_out(self):
        for deal in self.TINY:
            for party in deal.web.parties:
                layings = [[]] + [list(row) for row in helper.all_rows(deal.web.parties)]
                self.check_party(deal, party, losing_lates(deal, party, greatest_last(deal) + 1, layings))

    def test_only_by_the_keeper_itself(self):
        # What one leader gets of the other one's word it gets by b alone.
        web = Web(["b", "x", "z"], [("b", "x"), ("b", "z"), ("x", "b"), ("z", "b")])
        chance = random.Random(123)
        found, sooner = [], 0
        while len(found) < 120:
            last = {handing: [chance.randint(-1, 3) for _ in range(3)] for handing in web.handings}
            last["b", "z"][2] = chance.choice([-1, 2, 3])
            deal = Deal(web, chance.choice([["x", "z"], ["x"]]), last, chance.choice([1, 2, 3]))
            slots = helper.slots_at_outs(deal, "b")
            if sum(len(slot) for slot in slots) > 24:
                continue
            least = None
            for chosen in itertools.product(*slots):
                shows = sorted(show for show in chosen if show is not None)
                for seen in all_seen(shows, ["b"], 4 if least is None else least - 1):
                    late = max(seen.values(), default=1)
                    whole = sorted(shows + plain_late_must(deal, ["x", "z", "b"], shows, seen, "b"))
                    if (least is None or late < least) and "b" in helper.plain_losers(deal, ["x", "z", "b"], whole):
                        if plain_is_late_course(deal, ["b"], late, ["x", "z", "b"], whole, seen):
                            least = late
            found.append(least)
            self.check_party(deal, "b", least)
            sooner += can_lose_late(deal, "b", deal.wait) and not can_lose(deal, "b")
        self.assertTrue({None, 1, 2, 3} <= set(found))
        self.assertGreater(sooner, 0)

    def some_late_course(self, chance, deal, lot, late):
        """What keepers make of some shows of free parties and of when they see them, all that fits together."""
        laying = chance.sample(deal.web.parties, len(deal.web.parties))
        free = {chance.choice(slot) for slot in helper.slots_of(deal, laying)} - {None}
        free = sorted(show for show in free if show[1][1] not in lot)
        # Late is drawn once for each possible show, so it stays the same while more and more of them are made.
        later, before, shows = {}, None, free
        while shows != before:
            before = shows
            for show in shows:
                later.setdefault(show, chance.randint(1, late))
            shows = sorted(free + [show for party in lot for show in plain_late_must(deal, laying, before, later, party)])
        return (laying, shows, {show: later[show] for show in shows if show[1][0] in lot})

    def changed(self, chance, deal, thing, late):
        """The thing with one show or one number of seen otherwise."""
        laying, shows, seen = list(thing[0]), list(thing[1]), dict(thing[2])
        kind = chance.randrange(4)
        if kind == 0 and seen:
            seen[chance.choice(sorted(seen))] = chance.randint(0, late + 1)
        elif kind == 1 and seen:
            del seen[chance.choice(sorted(seen))]
        elif kind == 2 and shows:
            show = shows.pop(chance.randrange(len(shows)))
            if show in seen:
                del seen[show]
        else:
            laying = chance.sample(laying, len(laying))
        return (laying, shows, seen)

    def test_is_late_course(self):
        chance = random.Random(124)
        found = set()
        for deal, late in itertools.product(self.SMALL[::3] + self.WIDE[::2], (1, 3)):
            lots = helper.all_lots(deal.web.parties)
            for lot in chance.sample(lots, 3):
                thing = self.some_late_course(chance, deal, lot, late)
                for other in [thing, self.changed(chance, deal, thing, late), self.changed(chance, deal, thing, late)]:
                    expected = plain_is_late_course(deal, lot, late, *other)
                    found.add((len(lot), other is thing, expected))
                    self.assertIs(is_late_course(deal, lot, late, other), expected)
                    self.assertIs(is_late_course(deal, lot, 99, other), plain_is_late_course(deal, lot, 99, *other))
        self.assertTrue({(many, first, told) for many in (1, 2, 3) for first in (True, False) for told in (True, False)} <= found)

    def test_courses_are_late_courses_with_wait(self):
        for deal in self.WIDE:
            lots = helper.all_lots(deal.web.parties)
            for lot in lots:
                laying, shows = kept_course(deal)
                seen = {show: deal.wait for show in shows if show[1][0] in lot}
                self.holds(deal, lot, deal.wait, laying, shows, seen)
            for party in deal.web.parties:
                course = losing_course(deal, party)
                if course is not None:
                    seen = {show: deal.wait for show in course[1] if show[1][0] == party}
                    self.holds(deal, [party], deal.wait, *course, seen)
                    self.assertTrue(is_course(deal, [party], course))

    def test_facts(self):
        sorts = set()
        for deal in self.SMALL + self.WIDE:
            through = goes_through(deal)
            for party in deal.web.parties:
                told = can_lose_late(deal, party, deal.wait)
                # Who can lose can lose with late being wait, too; who has no slips cannot.
                self.assertTrue(told or not can_lose(deal, party))
                self.assertTrue(slips(deal, party) or not told)
                sorts.add((through, told, can_lose(deal, party)))
                if through:
                    room = slack(deal, party)
                    self.assertEqual(bears(deal, party), None if room is None else max(0, deal.wait + room))
                    for late in (1, 2, 3, 4, 5, 99):
                        self.assertIs(can_lose_late(deal, party, late), room is not None and late > deal.wait + room)
        self.assertTrue({(True, True, True), (True, False, False), (False, True, True), (False, False, False)} <= sorts)

    def test_who_can_lose_can_lose_later(self):
        for deal in self.WIDE[::3]:
            for party in deal.web.parties:
                told = [can_lose_late(deal, party, late) for late in list(range(1, 12)) + [99]]
                self.assertEqual(told, sorted(told))
                least = bears(deal, party)
                self.assertEqual(told[:11].count(False), 11 if least is None else min(11, least))
                for late in (1, 2, 5, 99):
                    self.check_losing_course(deal, party, late, can_lose_late(deal, party, late))


if __name__ == "__main__":
    unittest.main()

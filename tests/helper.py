"""What the tests share: strange values, many small webs and deals, and plain searches over all possibilities."""

import functools
import itertools
import math
import random

from handlocks.deals import Deal
from handlocks.errors import BadWeb, NoParty
from handlocks.webs import Web

LINE = Web(["a", "b", "c"], [("a", "b"), ("b", "c")])
RING = Web(["a", "b", "c"], [("a", "b"), ("b", "c"), ("c", "a")])


def deep_list(depth):
    value = "a"
    for _ in range(depth):
        value = [value]
    return value


def strange_values():
    """Values that are no party, no handing, no number, no list of parties but [] and (), and no web of ours."""
    return [
        None, True, False, 0, 1, -1, 10 ** 999, -10 ** 999, "", "A", "zz", "a ", "a\n", "abcdefg", "a1", "a-b", [], (), {},
        [None], (None,), [[]], ((),), {"a": 1}, {"a": "b"}, {("a", "b"): [("a", "b")]}, ["a", "a"], ("a", "a"),
        ["a", 1], [True, False], [["a"], ["b"]], [{"a": 1}], deep_list(20),
        Web(["x", "y"], [("x", "y")]), [Web(["x", "y"], [("x", "y")])], NoParty("a"), BadWeb("web"),
    ]


def lists_and_no_lists():
    """Values that are no list of different parties of any web of ours."""
    return [value for value in strange_values() if not (isinstance(value, (list, tuple)) and len(value) == 0)]


def all_handings(parties):
    return list(itertools.permutations(parties, 2))


def all_webs(parties):
    """All webs between these parties."""
    pairs = all_handings(parties)
    found = []
    for many in range(1, min(12, len(pairs)) + 1):
        found += [Web(parties, list(lot)) for lot in itertools.combinations(pairs, many)]
    return found


def some_webs(parties, many, seed):
    """Webs between these parties with few and with many handings, the same ones each time."""
    chance = random.Random(seed)
    pairs = all_handings(parties)
    return [Web(parties, chance.sample(pairs, 1 + k % min(12, len(pairs)))) for k in range(many)]


def small_webs():
    """All webs of 2 and 3 parties, and some hundreds of 4, 5 and 6."""
    return (all_webs(["a", "b"]) + all_webs(["a", "b", "c"]) + some_webs(list("abcd"), 240, 4)
            + some_webs(list("abcde"), 240, 5) + some_webs(list("abcdef"), 240, 6))


def all_lots(parties):
    return [lot for many in range(len(parties) + 1) for lot in itertools.combinations(sorted(parties), many)]


def in_order(rows):
    return sorted(rows, key=lambda row: (len(row), row))


@functools.cache
def all_rows(parties):
    """All tuples of different parties, in each order, but for the empty one."""
    return [row for many in range(1, len(parties) + 1) for row in itertools.permutations(parties, many)]


def plain_ways(web):
    """All ways, by their first and last party."""
    found = {(start, end): [] for start in web.parties for end in web.parties}
    for row in all_rows(web.parties):
        if all(pair in web.handings for pair in zip(row, row[1:])):
            found[row[0], row[-1]].append(row)
    return {pair: in_order(found[pair]) for pair in found}


def plain_rings(web):
    found = []
    for row in all_rows(web.parties):
        if len(row) > 1 and row[0] == min(row):
            if all(pair in web.handings for pair in zip(row, row[1:] + row[:1])):
                found.append(row)
    return in_order(found)


def plain_closed_lots(web):
    closed = []
    for lot in all_lots(web.parties)[1:-1]:
        if not any(giver in lot and taker not in lot for giver, taker in web.handings):
            closed.append(lot)
    return in_order([lot for lot in closed if not any(set(other) < set(lot) for other in closed)])


def plain_is_laying(web, leaders, keepers, laying):
    for at, party in enumerate(laying):
        if party in keepers and party not in leaders:
            for giver, taker in web.handings:
                if taker == party and giver not in laying[:at]:
                    return False
    return True


def plain_full_layings(web, leaders):
    """All layings of all parties, all being keepers, ascending."""
    return [list(row) for row in itertools.permutations(web.parties)
            if plain_is_laying(web, leaders, web.parties, row)]


def plain_least_leaders(web):
    circles = plain_rings(web)
    meeting = [lot for lot in all_lots(web.parties) if all(set(lot) & set(ring) for ring in circles)]
    return in_order([lot for lot in meeting if not any(set(other) < set(lot) for other in meeting)])


def are_apart(circles):
    return all(not set(one) & set(other) for one, other in itertools.combinations(circles, 2))


def plain_most_apart(web):
    """The greatest number of rings no two of which have a party in common (with 6 parties at most 3)."""
    circles = plain_rings(web)
    return max(many for many in range(4) for lot in itertools.combinations(circles, many) if are_apart(lot))


def deal_of(web, leaders, row, wait):
    """The deal with the same row of last ticks at all handings."""
    return Deal(web, leaders, {handing: row for handing in web.handings}, wait)


def values_not_equal_to(thing):
    """Values of other kinds, which no object of the package may be equal to."""
    return strange_values() + [object(), LINE.parties, LINE.handings, [thing], (thing,), {"a": thing}]


class Equal:
    """Says that it is equal to everything: a value of another kind all the same."""

    def __eq__(self, other):
        return True


# Points 31, 40 and 41, read as plainly as can be. Courses are taken apart here: laying and shows.


def steps_of(row):
    return list(zip(row, row[1:]))


def plain_trails(deal, handing, leader):
    found = []
    for row in all_rows(deal.web.parties):
        if row[0] == handing[1] and row[-1] == leader and all(step in deal.web.handings for step in steps_of(row)):
            found.append(row)
    return in_order(found)


def plain_in_time(deal, show):
    tick, handing, trail = show
    return 0 <= tick <= deal.last[handing][len(trail) - 1]


def plain_laid(deal, laying):
    return [handing for handing in deal.web.handings if handing[0] in laying]


def plain_must(deal, laying, shows, party):
    """What the party must show, tick by tick, as if it had shown itself just this."""
    last, laid = deal.last, plain_laid(deal, laying)
    ins = [handing for handing in deal.web.handings if handing[1] == party]
    done = []
    if party in deal.leaders and all(handing in laid and last[handing][0] >= 0 for handing in ins):
        done += [(0, handing, (party,)) for handing in ins]
    for tick in range(1, 110):
        asked = [trail for when, place, trail in shows if when == tick - deal.wait and place[0] == party]
        for handing, leader in itertools.product(ins if asked else [], deal.leaders):
            if handing not in laid or leader == party:
                continue
            if any(when < tick and place == handing and trail[-1] == leader for when, place, trail in done):
                continue
            own = [(party,) + trail for trail in asked if trail[-1] == leader and party not in trail]
            own = [trail for trail in own if tick <= last[handing][len(trail) - 1]]
            if own:
                done.append((tick, handing, min(own)))
    return sorted(done)


def plain_is_known(keepers, shows, tick, trail):
    """Whether the trail is known to its first party, which is free."""
    if len(trail) == 1:
        return True
    rest = trail[1:]
    if rest[0] in keepers:
        return any(other == rest and place[1] == rest[0] and when < tick for when, place, other in shows)
    return plain_is_known(keepers, shows, tick, rest)


def plain_can_stand(deal, laying, shows):
    """Whether all shows are laid, in time, with trails of their handings, and no word comes twice at one handing."""
    laid = plain_laid(deal, laying)
    for show in shows:
        tick, handing, trail = show
        if handing not in laid or trail not in plain_trails(deal, handing, trail[-1]) or trail[-1] not in deal.leaders:
            return False
        if not plain_in_time(deal, show):
            return False
    words = [(handing, trail[-1]) for tick, handing, trail in shows]
    return all(words.count(word) == 1 for word in words)


def plain_is_course(deal, keepers, laying, shows):
    """Whether these are a course; shows must be an ascending list of different triples that look like shows."""
    if not plain_is_laying(deal.web, deal.leaders, keepers, laying) or not plain_can_stand(deal, laying, shows):
        return False
    return plain_all_act(deal, keepers, laying, shows)


def plain_all_act(deal, keepers, laying, shows):
    """Whether keepers show just what they must, and free parties nothing that they cannot know."""
    for tick, handing, trail in shows:
        if handing[1] not in keepers and not plain_is_known(keepers, shows, tick, trail):
            return False
    for party in keepers:
        if [show for show in shows if show[1][1] == party] != plain_must(deal, laying, shows, party):
            return False
    return True


def plain_taken(deal, laying, shows):
    found = []
    for handing in plain_laid(deal, laying):
        if all(any(place == handing and trail[-1] == leader for tick, place, trail in shows) for leader in deal.leaders):
            found.append(handing)
    return tuple(found)


def plain_losers(deal, laying, shows):
    gone = plain_taken(deal, laying, shows)
    found = []
    for party in deal.web.parties:
        ins = [handing for handing in deal.web.handings if handing[1] == party]
        outs = [handing for handing in deal.web.handings if handing[0] == party]
        if any(out in gone for out in outs) and any(handing not in gone for handing in ins):
            found.append(party)
    return tuple(found)


# All possibilities.


def choices_at(deal, handing, leader):
    """All that can become of a word at a handing that is laid: not shown, or one show of it in time."""
    found = [None]
    for trail in plain_trails(deal, handing, leader):
        found += [(tick, handing, trail) for tick in range(deal.last[handing][len(trail) - 1] + 1)]
    return found


def slots_of(deal, laying, but=None):
    """For each word at each handing that is laid, all that can become of it; without the ins of one party."""
    return [choices_at(deal, handing, leader) for handing in plain_laid(deal, laying) if handing[1] != but
            for leader in deal.leaders]


def many_plays(deal, but=None):
    """How many possibilities there are if all lay."""
    return math.prod(len(slot) for slot in slots_of(deal, deal.web.parties, but))


def all_plays(deal, laying, but=None):
    """All ascending lists of shows that are laid and in time, no word being shown twice at one handing."""
    for chosen in itertools.product(*slots_of(deal, laying, but)):
        yield sorted(show for show in chosen if show is not None)


def lone_courses(deal, keeper, laying):
    """All courses with this laying in which this party is the only keeper."""
    if plain_is_laying(deal.web, deal.leaders, [keeper], laying):
        for shows in all_plays(deal, laying, keeper):
            whole = sorted(shows + plain_must(deal, laying, shows, keeper))
            if plain_all_act(deal, [keeper], laying, whole):
                yield whole


def behind_the_others(lot, party):
    """The lot as a laying in which the party lays last: then it stands behind all that it can stand behind."""
    return [other for other in lot if other != party] + [other for other in lot if other == party]


def plain_can_lose(deal, party):
    """Whether the party loses in some course in which it is the only keeper, by going through all of them."""
    for lot in all_lots(deal.web.parties):
        laying = behind_the_others(lot, party)
        for shows in lone_courses(deal, party, laying):
            if party in plain_losers(deal, laying, shows):
                return True
    return False


def slots_at_outs(deal, party):
    """For each word at each out of the party all that can become of it."""
    outs = [handing for handing in deal.web.handings if handing[0] == party]
    return [choices_at(deal, handing, leader) for handing in outs for leader in deal.leaders]


def plain_loses_at_outs(deal, party):
    """As plain_can_lose, for larger deals: all lay, and free parties show something at outs of the party only."""
    laying = behind_the_others(deal.web.parties, party)
    for chosen in itertools.product(*slots_at_outs(deal, party)):
        shows = sorted(show for show in chosen if show is not None)
        whole = sorted(shows + plain_must(deal, laying, shows, party))
        if plain_all_act(deal, [party], laying, whole) and party in plain_losers(deal, laying, whole):
            return True
    return False


def plain_answered(deal, laying, free, keepers):
    """These shows by free parties, and what the keepers must make of them and of one another's shows."""
    before, shows = None, sorted(free)
    while shows != before:
        before = shows
        shows = sorted(free + [show for party in keepers for show in plain_must(deal, laying, before, party)])
    return shows


def plain_kept_course(deal):
    """The course of all as keepers, with at each place the least party that can lay next, as long as there is one."""
    laying = []
    for _ in deal.web.parties:
        ready = [party for party in deal.web.parties if party not in laying
                 and plain_is_laying(deal.web, deal.leaders, deal.web.parties, laying + [party])]
        laying += ready[:1]
    return (laying, plain_answered(deal, laying, [], deal.web.parties))


def row_of(chance, sort, many, wait):
    """A row of last ticks of one of several sorts: any, near to what is needed, just what is needed, one number."""
    if sort == "any":
        return [chance.randint(-1, 2) for _ in range(many)]
    if sort == "near":
        return [max(-1, wait * k + chance.choice([-1, 0, 0, 1])) for k in range(many)]
    if sort == "just":
        return [wait * k for k in range(many)]
    return [chance.randint(0, 3)] * many


def some_deal(chance, parties, most):
    """A deal between these parties with up to so many handings."""
    pairs = all_handings(parties)
    web = Web(parties, chance.sample(pairs, chance.randint(2, min(most, len(pairs)))))
    leaders = chance.sample(parties, chance.choice([1, 1, 1, 2, 2, 3][:2 * len(parties) - 1]))
    wait = chance.choice([1, 1, 1, 2])
    sort = chance.choice(["any", "near", "near", "just", "plain"])
    return Deal(web, leaders, {handing: row_of(chance, sort, len(parties), wait) for handing in web.handings}, wait)


def some_deals(sizes, most, many, limit, seed):
    """So many deals with these numbers of parties and no more than limit possibilities, the same ones each time."""
    chance = random.Random(seed)
    found = []
    while len(found) < many:
        deal = some_deal(chance, list("abcd")[:chance.choice(sizes)], most)
        if many_plays(deal) <= limit:
            found.append(deal)
    return found

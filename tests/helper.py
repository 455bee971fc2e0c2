"""What the tests share: strange values, many small webs, and plain searches over all possibilities."""

import itertools
import random

from handlocks.errors import BadWeb, NoParty
from handlocks.webs import Web

LINE = Web(["a", "b", "c"], [("a", "b"), ("b", "c")])
RING = Web(["a", "b", "c"], [("a", "b"), ("b", "c"), ("c", "a")])


def deep_list(depth):
    value = "a"
    for _ in range(depth):
        value = [value]
    return value


def strange_values():
    """Values that are no party, no handing, no number, no list of parties but [] and (), and no web of ours."""
    return [
        None, True, False, 0, 1, -1, 10 ** 999, -10 ** 999, "", "A", "zz", "a ", "a\n", "abcdefg", "a1", "a-b", [], (), {},
        [None], (None,), [[]], ((),), {"a": 1}, {"a": "b"}, {("a", "b"): [("a", "b")]}, ["a", "a"], ("a", "a"),
        ["a", 1], [True, False], [["a"], ["b"]], [{"a": 1}], deep_list(20),
        Web(["x", "y"], [("x", "y")]), [Web(["x", "y"], [("x", "y")])], NoParty("a"), BadWeb("web"),
    ]


def lists_and_no_lists():
    """Values that are no list of different parties of any web of ours."""
    return [value for value in strange_values() if not (isinstance(value, (list, tuple)) and len(value) == 0)]


def all_handings(parties):
    return list(itertools.permutations(parties, 2))


def all_webs(parties):
    """All webs between these parties."""
    pairs = all_handings(parties)
    found = []
    for many in range(1, min(12, len(pairs)) + 1):
        found += [Web(parties, list(lot)) for lot in itertools.combinations(pairs, many)]
    return found


def some_webs(parties, many, seed):
    """Webs between these parties with few and with many handings, the same ones each time."""
    chance = random.Random(seed)
    pairs = all_handings(parties)
    return [Web(parties, chance.sample(pairs, 1 + k % min(12, len(pairs)))) for k in range(many)]


def small_webs():
    """All webs of 2 and 3 parties, and some hundreds of 4, 5 and 6."""
    return (all_webs(["a", "b"]) + all_webs(["a", "b", "c"]) + some_webs(list("abcd"), 240, 4)
            + some_webs(list("abcde"), 240, 5) + some_webs(list("abcdef"), 240, 6))


def all_lots(parties):
    return [lot for many in range(len(parties) + 1) for lot in itertools.combinations(sorted(parties), many)]


def in_order(rows):
    return sorted(rows, key=lambda row: (len(row), row))


def all_rows(parties):
    """All tuples of different parties, in each order, but for the empty one."""
    return [row for many in range(1, len(parties) + 1) for row in itertools.permutations(parties, many)]


def plain_ways(web):
    """All ways, by their first and last party."""
    found = {(start, end): [] for start in web.parties for end in web.parties}
    for row in all_rows(web.parties):
        if all(pair in web.handings for pair in zip(row, row[1:])):
            found[row[0], row[-1]].append(row)
    return {pair: in_order(found[pair]) for pair in found}


def plain_rings(web):
    found = []
    for row in all_rows(web.parties):
        if len(row) > 1 and row[0] == min(row):
            if all(pair in web.handings for pair in zip(row, row[1:] + row[:1])):
                found.append(row)
    return in_order(found)


def plain_closed_lots(web):
    closed = []
    for lot in all_lots(web.parties)[1:-1]:
        if not any(giver in lot and taker not in lot for giver, taker in web.handings):
            closed.append(lot)
    return in_order([lot for lot in closed if not any(set(other) < set(lot) for other in closed)])


def plain_is_laying(web, leaders, keepers, laying):
    for at, party in enumerate(laying):
        if party in keepers and party not in leaders:
            for giver, taker in web.handings:
                if taker == party and giver not in laying[:at]:
                    return False
    return True


def plain_full_layings(web, leaders):
    """All layings of all parties, all being keepers, ascending."""
    return [list(row) for row in itertools.permutations(web.parties)
            if plain_is_laying(web, leaders, web.parties, row)]


def plain_least_leaders(web):
    circles = plain_rings(web)
    meeting = [lot for lot in all_lots(web.parties) if all(set(lot) & set(ring) for ring in circles)]
    return in_order([lot for lot in meeting if not any(set(other) < set(lot) for other in meeting)])


def are_apart(circles):
    return all(not set(one) & set(other) for one, other in itertools.combinations(circles, 2))


def plain_most_apart(web):
    """The greatest number of rings no two of which have a party in common (with 6 parties at most 3)."""
    circles = plain_rings(web)
    return max(many for many in range(4) for lot in itertools.combinations(circles, many) if are_apart(lot))

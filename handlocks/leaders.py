"""Who must lead so that all come to lay: least lots of leaders, and rings apart."""

from handlocks.webs import check_web, rings, shorter_first


def all_lots(parties):
    """All lots of these parties, also nobody and all, shorter first."""
    lots = [()]
    for party in parties:
        lots = lots + [lot + (party,) for lot in lots]
    return shorter_first(lots)


def has_common(lot, other):
    """Whether two lots or rings have a party in common."""
    return any([party in other for party in lot])


def is_within(lot, other):
    """Whether all parties of the first lot are in the other one."""
    return all([party in other for party in lot])


def least_leaders(web):
    """All lots that meet each ring while no smaller lot within them does, shorter first."""
    check_web(web)
    circles = rings(web)
    found = []
    # Smaller lots come first, so what is within a lot is known when the lot's turn comes.
    for lot in all_lots(web.parties):
        is_least = not any([is_within(smaller, lot) for smaller in found])
        if is_least and all([has_common(lot, ring) for ring in circles]):
            found.append(lot)
    return found


def fewest_leaders(web):
    """The least number of leaders who meet each ring."""
    return len(least_leaders(web)[0])


def apart(web):
    """As many rings as can be, no two of which have a party in common."""
    check_web(web)
    groups = [[]]
    for ring in rings(web):
        free = [group for group in groups if not any([has_common(ring, other) for other in group])]
        groups = groups + [group + [ring] for group in free]
    return max(groups, key=len)

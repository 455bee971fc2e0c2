"""The least last ticks with which all goes through and nobody has slips, by trails and plain ones."""

from handlocks.deals import NEVER, are_deal_leaders, is_wait
from handlocks.errors import BadLeaders, BadNumber
from handlocks.laying import order
from handlocks.webs import check_web, nearest, rings, ways


def check_wait(wait):
    """Refuse what is no number that can be a wait."""
    if not is_wait(wait):
        raise BadNumber(wait)


def check_plan(web, leaders, wait):
    """Refuse what cannot be the web, the leaders and the wait of a deal."""
    check_web(web)
    if not are_deal_leaders(web, leaders):
        raise BadLeaders("leaders must be a list of 1 to 3 different parties of the web")
    check_wait(wait)


def can_fit(web, leaders):
    """Whether all come to lay, and each word can come to each handing: if not, no last ticks fit."""
    all_lay = order(web, leaders)[0] == "order"
    return all_lay and all([nearest(web, taker, leader) is not None for _, taker in web.handings for leader in leaders])


def trails_to(web, leaders, taker):
    """All trails at the handings with this taker, to whichever leader."""
    return [way for leader in leaders for way in ways(web, taker, leader)]


def least_row(web, leaders, taker, wait):
    """The least last ticks at the handings with this taker.

    A word that goes on as late as it can comes wait ticks later with each party, so a trail needs wait ticks for
    each of its handings.
    """
    lengths = [len(trail) - 1 for trail in trails_to(web, leaders, taker)]
    return tuple([wait * length if length in lengths else NEVER for length in range(len(web.parties))])


def least_last(web, leaders, wait):
    """The dict last that fits, each number of which is as small as in any other that fits; None if none fits."""
    check_plan(web, leaders, wait)
    if not can_fit(web, leaders):
        return None
    return {handing: least_row(web, leaders, handing[1], wait) for handing in web.handings}


def bound_pairs(web, leaders):
    """The pairs of an in and an out of one party, which answers at the first to what is shown at the other one."""
    found = []
    for party in web.parties:
        for out in web.outs(party):
            if any([party not in trail for trail in trails_to(web, leaders, out[1])]):
                found.extend([(handing, out) for handing in web.ins(party)])
    return found


def plain_last(web, leaders, wait):
    """The least plain one that fits, as a dict from the handings to their numbers; None if none fits.

    All that goes through is shown at tick 0 or later, and who has no slips can always answer in time. So the
    numbers need only be 0 or more, and be wait ticks later at an in than at an out that is answered there.
    """
    check_plan(web, leaders, wait)
    if not can_fit(web, leaders):
        return None
    pairs = bound_pairs(web, leaders)
    found = {handing: 0 for handing in web.handings}
    # No chain of answers has more handings than there are, unless it comes back to where it began and never ends.
    for _ in web.handings:
        for later, sooner in pairs:
            found[later] = max(found[later], found[sooner] + wait)
    if any([found[later] < found[sooner] + wait for later, sooner in pairs]):
        return None
    return found


def plain_leaders(web):
    """The parties who stand in each ring, ascending; all, if there is no ring."""
    circles = rings(web)
    return tuple([party for party in web.parties if all([party in ring for ring in circles])])

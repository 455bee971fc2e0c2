"""What comes about if all keep the rules, also if one of them stops."""

from handlocks.courses import due_at, losers, taken
from handlocks.deals import LAST_TICK, check_deal
from handlocks.errors import BadNumber
from handlocks.kinds import is_number_within
from handlocks.laying import laid_by, longest_laying
from handlocks.webs import check_party


def course_with(deal, stops):
    """The course in which all keep the rules, but that who stops shows nothing from its tick on.

    Stops is a dict from parties to these ticks.
    """
    laying = longest_laying(deal.web, deal.leaders)
    laid = laid_by(deal.web, laying)
    shows = []
    # Nothing is shown at other ticks: each answer comes wait ticks behind a show, and the first are at tick 0.
    for tick in range(0, LAST_TICK + 1, deal.wait):
        for party in deal.web.parties:
            if tick < stops.get(party, LAST_TICK + 1):
                shows.extend(due_at(deal, laid, shows, party, tick))
    return (laying, sorted(shows))


def kept_course(deal):
    """The course in which all are keepers, and who can lay does."""
    check_deal(deal)
    return course_with(deal, {})


def goes_through(deal):
    """Whether all handings are taken if all keep the rules."""
    return taken(deal, kept_course(deal)) == deal.web.handings


def taken_at(deal):
    """The dict from the handings to the tick of the last word there if all keep the rules, None if not taken."""
    course = kept_course(deal)
    gone = taken(deal, course)
    found = {}
    for handing in deal.web.handings:
        ticks = [tick for tick, place, _ in course[1] if place == handing]
        found[handing] = max(ticks) if handing in gone else None
    return found


def last_tick(deal):
    """The tick at which the last handing is taken if all keep the rules, None if not all are."""
    ticks = list(taken_at(deal).values())
    return None if None in ticks else max(ticks)


def stopped_course(deal, party, tick):
    """The course in which all keep the rules, but that this party shows nothing from this tick on."""
    check_deal(deal)
    check_party(deal.web, party)
    if not is_number_within(tick, 0, LAST_TICK):
        raise BadNumber(tick)
    return course_with(deal, {party: tick})


def harmed(deal, party):
    """The others who lose if this party stops at some tick, ascending."""
    check_deal(deal)
    check_party(deal.web, party)
    own = [tick for tick, handing, _ in kept_course(deal)[1] if handing[1] == party]
    # Who stops later has stopped in the same way, unless it has shown something more in between.
    stops = [tick for tick in range(LAST_TICK + 1) if tick == 0 or tick - 1 in own]
    lost = [losers(deal, stopped_course(deal, party, tick)) for tick in stops]
    return tuple([other for other in deal.web.parties if other != party and any([other in lot for lot in lost])])

"""Keepers who see what is shown to them sooner or later, as an opponent has it."""

from handlocks.courses import answers_to, are_shows, can_stand, has_free_hands, is_show, leading
from handlocks.deals import check_deal
from handlocks.errors import BadNumber
from handlocks.kinds import is_number_within
from handlocks.laying import check_keepers, is_laying, laid_by
from handlocks.losing import laying_against, losing_plan
from handlocks.webs import check_party

# No last tick is so late: what is seen so many ticks later is answered nowhere, and more ticks change nothing.
TOO_LATE = 100


def check_late(late):
    """Refuse what is no number of ticks up to which keepers may be late."""
    if not is_number_within(late, 1, 99):
        raise BadNumber(late)


def late_due(deal, laid, shows, seen, party):
    """All that the party must show, if it sees each show at its outs as many ticks later as seen tells, ascending."""
    looks = [(show[0] + seen[show], show[2]) for show in shows if show[1][0] == party]
    done = leading(deal, laid, party)
    for tick in sorted({when for when, _ in looks}):
        done = done + answers_to(deal, laid, [trail for when, trail in looks if when == tick], done, party, tick)
    return sorted(done)


def is_seen(deal, keepers, late, shows, thing):
    """Whether the thing is a dict from just the shows at outs of keepers to how many ticks later they are seen."""
    if not isinstance(thing, dict):
        return False
    told = [show for show in shows if show[1][0] in keepers]
    # True counts as 1 in a key, but is no tick: what is in the dict must be shows by itself.
    if len(thing) != len(told) or not all([is_show(deal, key) for key in thing]):
        return False
    return all([show in thing and is_number_within(thing[show], 1, late) for show in told])


def has_kept_late(deal, laid, shows, seen, party):
    """Whether the party has shown just what it must."""
    own = [show for show in shows if show[1][1] == party]
    return own == late_due(deal, laid, shows, seen, party)


def is_late_course(deal, keepers, late, thing):
    """Whether the thing is a late course of these keepers."""
    check_deal(deal)
    check_keepers(deal.web, keepers)
    check_late(late)
    if not isinstance(thing, tuple) or len(thing) != 3:
        return False
    laying, shows, seen = thing
    if not is_laying(deal.web, deal.leaders, keepers, laying) or not are_shows(deal, shows):
        return False
    laid = laid_by(deal.web, laying)
    if not can_stand(deal, laid, shows) or not has_free_hands(keepers, shows):
        return False
    if not is_seen(deal, keepers, late, shows, seen):
        return False
    return all([has_kept_late(deal, laid, shows, seen, party) for party in keepers])


def late_plan(deal, party, late):
    """How free parties make the party lose if it sees shows 1 to so many ticks later, [] if they cannot."""
    return losing_plan(deal, party, (1, late))


def can_lose_late(deal, party, late):
    """Whether the party loses in some late course in which it is the only keeper."""
    check_deal(deal)
    check_party(deal.web, party)
    check_late(late)
    return len(late_plan(deal, party, late)) > 0


def late_losing_course(deal, party, late):
    """A late course with the party as the only keeper in which it loses, None if there is none."""
    check_deal(deal)
    check_party(deal.web, party)
    check_late(late)
    plan = sorted(late_plan(deal, party, late))
    if len(plan) == 0:
        return None
    seen = {show: later for show, later in plan}
    shows = [show for show, _ in plan]
    return (laying_against(deal, party), sorted(shows + late_due(deal, deal.web.handings, shows, seen, party)), seen)


def bears(deal, party):
    """The greatest number of ticks up to which the party may see shows later and cannot lose, None if any."""
    check_deal(deal)
    check_party(deal.web, party)
    if len(late_plan(deal, party, TOO_LATE)) == 0:
        return None
    # Who can lose can lose as well if it may see shows still later.
    least, most = 0, TOO_LATE
    while most - least > 1:
        middle = (least + most) // 2
        if len(late_plan(deal, party, middle)) == 0:
            least = middle
        else:
            most = middle
    return least

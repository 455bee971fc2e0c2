"""Who can lose although it keeps the rules, whatever all others do; and how far last ticks must be raised."""

from handlocks.courses import all_due
from handlocks.deals import LAST_TICK, check_deal, last_for, trails
from handlocks.webs import check_party


def margins(deal, party):
    """The triples (trail, handing, margin) of what is shown at an out of the party and answered at an in.

    The margin is by how many ticks the answer is in time there, if the trail is shown as late as can be;
    below 0 it can be shown too late.
    """
    found = []
    for out in deal.web.outs(party):
        for trail in [way for leader in deal.leaders for way in trails(deal, out, leader) if party not in way]:
            length = len(trail) - 1
            shown = last_for(deal, out, length)
            if shown >= 0:
                for handing in deal.web.ins(party):
                    found.append((trail, handing, last_for(deal, handing, length + 1) - shown - deal.wait))
    return found


def slips(deal, party):
    """The pairs (trail, handing) with which a word can be shown too late for the party, ascending."""
    check_deal(deal)
    check_party(deal.web, party)
    return sorted([(trail, handing) for trail, handing, margin in margins(deal, party) if margin < 0])


def slack(deal, party):
    """The least margin of the party, below 0 if it has slips; None if it need not answer anything."""
    check_deal(deal)
    check_party(deal.web, party)
    return min([margin for _, _, margin in margins(deal, party)], default=None)


def mended(deal, party):
    """The deal in which the last ticks of the party's ins are just so late that it has no slips, or None."""
    check_deal(deal)
    check_party(deal.web, party)
    better = deal
    for trail, handing, margin in margins(deal, party):
        needed = last_for(deal, handing, len(trail)) - margin
        if needed > LAST_TICK:
            return None
        if needed > last_for(better, handing, len(trail)):
            better = better.with_last(handing, len(trail), needed)
    return better


def plan_around(deal, out, trail, missed):
    """How free parties show a trail at an out of a keeper who does not stand in it: a list of shows, [] if they cannot.

    If missed is an in of the keeper, its answer must come too late there.
    """
    length = len(trail) - 1
    tick = 0 if missed is None else max(0, last_for(deal, missed, length + 1) - deal.wait + 1)
    return [(tick, out, trail)] if tick <= last_for(deal, out, length) else []


def brought_to_show(deal, party, rest, missed):
    """How free parties bring a keeper to show the trail of itself and then the rest at one of its ins.

    A pair of their shows and of the tick at which it does so, or None.
    """
    ins = deal.web.ins(party)
    if len(rest) == 0:
        # A leader shows its own word without being asked: at all its ins at tick 0, or nowhere.
        return ([], 0) if all([last_for(deal, handing, 0) >= 0 for handing in ins]) else None
    asked = plan_around(deal, (party, rest[0]), rest, missed)
    if len(asked) == 0:
        return None
    tick = asked[0][0] + deal.wait
    return (asked, tick) if any([tick <= last_for(deal, handing, len(rest)) for handing in ins]) else None


def plan_through(deal, party, out, trail, missed):
    """How free parties show a trail in which the keeper itself stands: a list of shows, [] if they cannot."""
    brought = brought_to_show(deal, party, trail[trail.index(party) + 1:], missed)
    if brought is None:
        return []
    asked, tick = brought
    # What the keeper shows at a tick is known from the next one on.
    return asked + [(tick + 1, out, trail)] if tick + 1 <= last_for(deal, out, len(trail) - 1) else []


def plan_for(deal, party, out, leader, missed):
    """How free parties bring the word of a leader to an out of the party: a list of shows, [] if they cannot.

    If missed is an in of the party, the party must not show this word there.
    """
    for trail in trails(deal, out, leader):
        if party in trail:
            plan = plan_through(deal, party, out, trail, missed)
        else:
            plan = plan_around(deal, out, trail, missed)
        if plan:
            return plan
    return []


def plan_at(deal, party, out):
    """How free parties take this out while the party misses an in: a list of shows, [] if they cannot.

    The words do not touch one another: what is shown and known of one changes nothing for another. So one word
    must be missed, and all others need only come to the out. A leader who keeps the rules never misses its own
    word, since nobody else can show it before the leader has shown it at all its ins.
    """
    plans = {leader: plan_for(deal, party, out, leader, None) for leader in deal.leaders}
    if not all([len(plans[leader]) > 0 for leader in deal.leaders]):
        return []
    for word in [leader for leader in deal.leaders if leader != party]:
        for missed in deal.web.ins(party):
            plan = plan_for(deal, party, out, word, missed)
            if plan:
                others = [show for leader in deal.leaders if leader != word for show in plans[leader]]
                return plan + others
    return []


def losing_course(deal, party):
    """A course with the party as the only keeper in which it loses, None if there is none.

    All others lay ahead of it, for what is not laid helps nobody against it: its outs are laid only if all its
    ins are, or it is a leader, who shows its word only then.
    """
    check_deal(deal)
    check_party(deal.web, party)
    for out in deal.web.outs(party):
        plan = plan_at(deal, party, out)
        if plan:
            laying = [other for other in deal.web.parties if other != party] + [party]
            return (laying, sorted(plan + all_due(deal, deal.web.handings, plan, party)))
    return None


def can_lose(deal, party):
    """Whether the party can lose in the deal although it keeps the rules."""
    return losing_course(deal, party) is not None


def in_danger(deal):
    """The parties that can lose, ascending."""
    check_deal(deal)
    return tuple([party for party in deal.web.parties if can_lose(deal, party)])


def is_sound(deal):
    """Whether nobody who keeps the rules can lose."""
    return len(in_danger(deal)) == 0

"""Who can lose although it keeps the rules, whatever all others do; and how far last ticks must be raised."""

from handlocks.courses import all_due
from handlocks.deals import LAST_TICK, check_deal, last_for, trails
from handlocks.webs import check_party


def margins(deal, party):
    """The triples (trail, handing, margin) of what is shown at an out of the party and answered at an in.

    The margin is by how many ticks the answer is in time there, if the trail is shown as late as can be;
    below 0 it can be shown too late.
    """
    found = []
    for out in deal.web.outs(party):
        for trail in [way for leader in deal.leaders for way in trails(deal, out, leader) if party not in way]:
            length = len(trail) - 1
            shown = last_for(deal, out, length)
            if shown >= 0:
                for handing in deal.web.ins(party):
                    found.append((trail, handing, last_for(deal, handing, length + 1) - shown - deal.wait))
    return found


def slips(deal, party):
    """The pairs (trail, handing) with which a word can be shown too late for the party, ascending."""
    check_deal(deal)
    check_party(deal.web, party)
    return sorted([(trail, handing) for trail, handing, margin in margins(deal, party) if margin < 0])


def slack(deal, party):
    """The least margin of the party, below 0 if it has slips; None if it need not answer anything."""
    check_deal(deal)
    check_party(deal.web, party)
    return min([margin for _, _, margin in margins(deal, party)], default=None)


def mended(deal, party):
    """The deal in which the last ticks of the party's ins are just so late that it has no slips, or None."""
    check_deal(deal)
    check_party(deal.web, party)
    better = deal
    for trail, handing, margin in margins(deal, party):
        needed = last_for(deal, handing, len(trail)) - margin
        if needed > LAST_TICK:
            return None
        if needed > last_for(better, handing, len(trail)):
            better = better.with_last(handing, len(trail), needed)
    return better


# A plan of free parties against a keeper is a list of pairs: a show at one of its outs, and so many ticks later it
# sees the show. The least and the greatest of these numbers that there can be are called the span. [] is no plan.


def plan_around(deal, out, trail, missed, span):
    """How they show a trail at an out of a keeper who does not stand in it.

    If missed is an in of the keeper, its answer must come too late there.
    """
    length = len(trail) - 1
    tick = 0 if missed is None else max(0, last_for(deal, missed, length + 1) - span[1] + 1)
    return [((tick, out, trail), span[1])] if tick <= last_for(deal, out, length) else []


def plan_to_be_told(deal, party, rest, missed, span):
    """How they bring the keeper to show the trail of itself and then the rest at one of its ins, but not where missed.

    A pair of their plan and of the tick at which the keeper does so, None if they cannot. The sooner it does so the
    more can be done with it.
    """
    out = (party, rest[0])
    latest = last_for(deal, out, len(rest) - 1)
    tick = span[0] if missed is None else max(span[0], last_for(deal, missed, len(rest)) + 1)
    later = max(span[0], tick - latest)
    in_time_somewhere = any([tick <= last_for(deal, handing, len(rest)) for handing in deal.web.ins(party)])
    if latest < 0 or later > span[1] or not in_time_somewhere:
        return None
    return ([((tick - later, out, rest), later)], tick)


def leader_tells(deal, party):
    """The same for the word of the keeper itself: it shows it unasked, at all its ins at tick 0, or nowhere."""
    return ([], 0) if all([last_for(deal, handing, 0) >= 0 for handing in deal.web.ins(party)]) else None


def plan_through(deal, party, out, trail, missed, span):
    """How they show a trail in which the keeper itself stands."""
    rest = trail[trail.index(party) + 1:]
    told = plan_to_be_told(deal, party, rest, missed, span) if rest else leader_tells(deal, party)
    if told is None:
        return []
    plan, tick = told
    # What the keeper shows at a tick is known from the next one on.
    in_time_there = tick + 1 <= last_for(deal, out, len(trail) - 1)
    return plan + [((tick + 1, out, trail), span[0])] if in_time_there else []


def plan_for(deal, party, out, leader, missed, span):
    """How they bring the word of a leader to an out of the keeper.

    If missed is an in of the keeper, it must not show this word there.
    """
    for trail in trails(deal, out, leader):
        if party in trail:
            plan = plan_through(deal, party, out, trail, missed, span)
        else:
            plan = plan_around(deal, out, trail, missed, span)
        if plan:
            return plan
    return []


def plan_at(deal, party, out, span):
    """How they take this out while the keeper misses an in.

    The words do not touch one another: what is shown and known of one changes nothing for another. So one word
    must be missed, and all others need only come to the out. A leader who keeps the rules never misses its own
    word, since nobody else can show it before the leader has shown it at all its ins.
    """
    plans = {leader: plan_for(deal, party, out, leader, None, span) for leader in deal.leaders}
    if not all([len(plans[leader]) > 0 for leader in deal.leaders]):
        return []
    for word in [leader for leader in deal.leaders if leader != party]:
        for missed in deal.web.ins(party):
            plan = plan_for(deal, party, out, word, missed, span)
            if plan:
                return plan + [pair for leader in deal.leaders if leader != word for pair in plans[leader]]
    return []


def losing_plan(deal, party, span):
    """How they make the keeper lose. For this all lay, it behind them."""
    for out in deal.web.outs(party):
        plan = plan_at(deal, party, out, span)
        if plan:
            return plan
    return []


def laying_against(deal, party):
    """The laying of all with the party last.

    What is not laid helps nobody against it: its outs are laid only if all its ins are, or it is a leader, who
    shows its word only then.
    """
    return [other for other in deal.web.parties if other != party] + [party]


def losing_course(deal, party):
    """A course with the party as the only keeper in which it loses, None if there is none."""
    check_deal(deal)
    check_party(deal.web, party)
    plan = losing_plan(deal, party, (deal.wait, deal.wait))
    if len(plan) == 0:
        return None
    shows = [show for show, _ in plan]
    return (laying_against(deal, party), sorted(shows + all_due(deal, deal.web.handings, shows, party)))


def can_lose(deal, party):
    """Whether the party can lose in the deal although it keeps the rules."""
    return losing_course(deal, party) is not None


def in_danger(deal):
    """The parties that can lose, ascending."""
    check_deal(deal)
    return tuple([party for party in deal.web.parties if can_lose(deal, party)])


def is_sound(deal):
    """Whether nobody who keeps the rules can lose."""
    return len(in_danger(deal)) == 0

"""Courses: what is laid and shown, what a keeper must show, what is taken, and who loses."""

from handlocks.deals import check_deal, in_time, last_for
from handlocks.errors import BadCourse
from handlocks.kinds import is_list, is_number
from handlocks.laying import are_parties_of, check_keepers, is_laying, laid_by
from handlocks.webs import check_party


def is_trail(deal, handing, thing):
    """Whether the thing is a trail at this handing."""
    if not isinstance(thing, tuple) or len(thing) == 0 or not are_parties_of(deal.web, thing):
        return False
    if thing[0] != handing[1] or thing[-1] not in deal.leaders:
        return False
    return all([step in deal.web.handings for step in zip(thing, thing[1:])])


def is_show(deal, thing):
    """Whether the thing is a show whose handing and trail are those of the deal, in time or not."""
    if not isinstance(thing, tuple) or len(thing) != 3:
        return False
    tick, handing, trail = thing
    if not is_number(tick) or tick < 0 or handing not in deal.web.handings:
        return False
    return is_trail(deal, handing, trail)


def are_shows(deal, thing):
    """Whether the thing is an ascending list of different shows, in time or not."""
    if not is_list(thing) or not all([is_show(deal, item) for item in thing]):
        return False
    return all([show < following for show, following in zip(thing, thing[1:])])


def can_stand(deal, laid, shows):
    """Whether all that is shown is shown where something is laid, in time, and no word twice at one handing."""
    if not all([handing in laid and in_time(deal, tick, handing, trail) for tick, handing, trail in shows]):
        return False
    words = [(handing, trail[-1]) for _, handing, trail in shows]
    return len(set(words)) == len(words)


def is_known(keepers, shows, tick, trail):
    """Whether the first party of the trail, being free, can know of it at this tick.

    The free parties up to the first keeper in the trail tell one another, so all rests with this keeper.
    """
    for at in range(1, len(trail)):
        if trail[at] in keepers:
            return any([when < tick and other == trail[at:] for when, _, other in shows])
    return True


def leading(deal, laid, party):
    """What the party must show at tick 0: its word at all its ins if it is a leader who can, else nothing."""
    ins = deal.web.ins(party)
    ready = [handing for handing in ins if handing in laid and last_for(deal, handing, 0) >= 0]
    if party not in deal.leaders or len(ready) < len(ins):
        return []
    return [(0, handing, (party,)) for handing in ins]


def answers_to(deal, laid, seen, done, party, tick):
    """What the party must show at this tick, at which it sees shows with these trails, having done some shows."""
    longer = [(party,) + trail for trail in seen if party not in trail]
    found = []
    for handing in deal.web.ins(party):
        if handing in laid:
            known = [trail[-1] for when, place, trail in done if place == handing and when < tick]
            fit = [trail for trail in longer if trail[-1] not in known and in_time(deal, tick, handing, trail)]
            for leader in deal.leaders:
                least = min([trail for trail in fit if trail[-1] == leader], default=None)
                if least is not None:
                    found.append((tick, handing, least))
    return found


def answers(deal, laid, shows, party, tick):
    """What the party must show at this tick by what was shown at its outs wait ticks ahead of it."""
    seen = [trail for when, place, trail in shows if place[0] == party and when + deal.wait == tick]
    return answers_to(deal, laid, seen, shows, party, tick)


def due_at(deal, laid, shows, party, tick):
    """What the party must show at this tick, if it has shown ahead of it just what it had to."""
    return leading(deal, laid, party) if tick == 0 else answers(deal, laid, shows, party, tick)


def all_due(deal, laid, shows, party):
    """All that the party must show, by what is laid and what is shown at its outs alone, ascending."""
    seen = [show for show in shows if show[1][0] == party]
    done = []
    for tick in [0] + sorted({show[0] + deal.wait for show in seen}):
        done.extend(due_at(deal, laid, seen + done, party, tick))
    return sorted(done)


def has_kept(deal, laid, shows, party):
    """Whether the party has shown just what it must."""
    own = [show for show in shows if show[1][1] == party]
    return own == all_due(deal, laid, shows, party)


def has_free_hands(keepers, shows):
    """Whether all that free parties have shown was known to them."""
    free = [show for show in shows if show[1][1] not in keepers]
    return all([is_known(keepers, shows, tick, trail) for tick, _, trail in free])


def is_course(deal, keepers, thing):
    """Whether the thing is a course of these keepers."""
    check_deal(deal)
    check_keepers(deal.web, keepers)
    if not isinstance(thing, tuple) or len(thing) != 2:
        return False
    laying, shows = thing
    if not is_laying(deal.web, deal.leaders, keepers, laying) or not are_shows(deal, shows):
        return False
    laid = laid_by(deal.web, laying)
    if not can_stand(deal, laid, shows) or not has_free_hands(keepers, shows):
        return False
    return all([has_kept(deal, laid, shows, party) for party in keepers])


def check_course(deal, course):
    """Refuse what is no deal, and what is no course of no keepers in it."""
    if not is_course(deal, [], course):
        raise BadCourse("this is no course, even if nobody keeps the rules")


def taken_by(deal, laid, shows):
    """The handings that are laid and at which the words of all leaders are shown, ascending."""
    shown = [(handing, trail[-1]) for _, handing, trail in shows]
    return tuple([handing for handing in laid if all([(handing, leader) in shown for leader in deal.leaders])])


def taken(deal, course):
    """The handings that are taken in the end, ascending."""
    check_course(deal, course)
    laying, shows = course
    return taken_by(deal, laid_by(deal.web, laying), shows)


def losers(deal, course):
    """The parties one of whose outs is taken while one of their ins is not, ascending."""
    gone = taken(deal, course)
    left = [handing for handing in deal.web.handings if handing not in gone]
    givers = [handing[0] for handing in gone]
    missing = [handing[1] for handing in left]
    return tuple([party for party in deal.web.parties if party in givers and party in missing])


def must_show(deal, course, party):
    """All shows that the party must do, were it a keeper, ascending."""
    check_course(deal, course)
    check_party(deal.web, party)
    laying, shows = course
    return all_due(deal, laid_by(deal.web, laying), shows, party)

"""What a course tells of its parties: who kept the rules, who had which word when, and whom one can trust."""

from handlocks.courses import all_due, check_course, is_course
from handlocks.errors import NoParty
from handlocks.laying import laid_by
from handlocks.leaders import all_lots, is_within
from handlocks.webs import check_party


def passed_over(deal, laying, party):
    """The parties that hand something to this one and should have laid ahead of it, and have not, ascending."""
    if party in deal.leaders or party not in laying:
        return []
    ahead = laying[:laying.index(party)]
    return [giver for giver, _ in deal.web.ins(party) if giver not in ahead]


def all_wrong(deal, laying, shows, party):
    """Two ascending lists: what the party has shown and must not, and what it must show and has not."""
    due = all_due(deal, laid_by(deal.web, laying), shows, party)
    done = [show for show in shows if show[1][1] == party]
    return ([show for show in done if show not in due], [show for show in due if show not in done])


def fault_of(deal, course, party):
    """The first fault of the party, None if it acts just as a keeper."""
    laying, shows = course
    givers = passed_over(deal, laying, party)
    if givers:
        return ("laid", givers[0])
    added, left = all_wrong(deal, laying, shows, party)
    wrong = sorted(added + left)
    return ("shown", wrong[0]) if wrong else None


def keepers_in(deal, course):
    """The parties that act just as keepers, ascending."""
    check_course(deal, course)
    return tuple([party for party in deal.web.parties if fault_of(deal, course, party) is None])


def first_fault(deal, course, party):
    """None if the party acts just as a keeper; else ("laid", giver) or ("shown", show)."""
    check_course(deal, course)
    check_party(deal.web, party)
    return fault_of(deal, course, party)


def heard(deal, course, leader):
    """The dict from the parties to the least tick at which they can have the word of the leader, or to None."""
    check_course(deal, course)
    if leader not in deal.leaders:
        raise NoParty(leader)
    found = {}
    for party in deal.web.parties:
        ticks = [tick for tick, handing, trail in course[1] if handing[0] == party and trail[-1] == leader]
        found[party] = min(ticks) + deal.wait if ticks else None
    found[leader] = 0
    return found


def trusted(deal, course):
    """All lots such that the course is one of these keepers, and of no greater lot that has them, shorter first."""
    check_course(deal, course)
    lots = [lot for lot in all_lots(deal.web.parties) if is_course(deal, lot, course)]
    return [lot for lot in lots if not any([lot != other and is_within(lot, other) for other in lots])]

"""Rules of last ticks, and in how small webs somebody loses by them, or not all goes through."""

from handlocks.deals import Deal
from handlocks.errors import BadNumber, BadRule, BadWeb
from handlocks.kinds import is_list, is_number_within
from handlocks.tables import check_plan, check_wait
from handlocks.webs import Web, check_party, farthest, is_tied, nearest

FIRST_NAMES = "abcdef"
# The numbers of a rule grow steadily behind a few first ones. What has come about in no web of up to so many
# parties never does: even if just one tick is gained with each party, at most 40 must be gained.
MANY_PARTIES = 100


def is_listed(value):
    """Whether the value is a list of 1 to 4 numbers from 0 to 40."""
    return is_list(value) and 1 <= len(value) <= 4 and all([is_number_within(item, 0, 40) for item in value])


def is_factor(value):
    """Whether the value is a number from 0 to 5."""
    return is_number_within(value, 0, 5)


class TrailRule:
    """Last ticks that depend on the length of a trail alone."""

    def __init__(self, listed, growth):
        if not is_listed(listed):
            raise BadRule("listed")
        if not is_number_within(growth, 0, 10):
            raise BadRule("growth")
        self._listed = tuple(listed)
        self._growth = growth

    @property
    def listed(self):
        """The last ticks for the least lengths."""
        return self._listed

    @property
    def growth(self):
        """How much more there is for each further length."""
        return self._growth

    def __eq__(self, other):
        return isinstance(other, TrailRule) and self._listed == other._listed and self._growth == other._growth

    def until(self, length):
        """The last tick for trails of this length."""
        if not is_number_within(length, 0, 1000):
            raise BadNumber(length)
        known = len(self._listed) - 1
        if length <= known:
            return self._listed[length]
        return self._listed[known] + self._growth * (length - known)

    def deal_for(self, web, leaders, wait):
        """The deal with these last ticks at all handings."""
        check_plan(web, leaders, wait)
        row = [self.until(length) for length in range(len(web.parties))]
        return Deal(web, leaders, {handing: row for handing in web.handings}, wait)

    def loses_with(self, parties, wait):
        """Whether a party can have a slip with a trail so long that just so many parties are needed for both.

        Who has no slips cannot lose. Who has one does lose in a ring of just these parties: what it hands out can
        be taken, and to what comes to it the word can come by no other trail.
        """
        return self.until(parties - 2) + wait > self.until(parties - 1)

    def sticks_with(self, parties, wait):
        """Whether a trail of so many parties comes too late if all keep the rules.

        It comes wait ticks later with each of its handings. As long as none is too late, each word comes to each
        handing along a shortest way; and in a ring the longest way is the only one.
        """
        return wait * (parties - 1) > self.until(parties - 1)

    def shortcuts(self, parties):
        """The handings that a ring of these parties needs besides its own, so that somebody loses in it."""
        return []


class WayRule:
    """Last ticks that depend on the ways from the taker to the leader, and on how many parties there are."""

    def __init__(self, constant, per_near, per_far, per_party):
        if not is_factor(constant):
            raise BadRule("constant")
        if not is_factor(per_near):
            raise BadRule("per_near")
        if not is_factor(per_far):
            raise BadRule("per_far")
        if not is_factor(per_party):
            raise BadRule("per_party")
        self._constant = constant
        self._per_near = per_near
        self._per_far = per_far
        self._per_party = per_party

    @property
    def constant(self):
        """What is there in any case."""
        return self._constant

    @property
    def per_near(self):
        """How much more for each handing of the shortest way."""
        return self._per_near

    @property
    def per_far(self):
        """How much more for each handing of the longest way."""
        return self._per_far

    @property
    def per_party(self):
        """How much more for each party of the web."""
        return self._per_party

    def __eq__(self, other):
        return (isinstance(other, WayRule) and self._constant == other._constant and self._per_near == other._per_near
                and self._per_far == other._per_far and self._per_party == other._per_party)

    def deal_for(self, web, leader, wait):
        """The deal with this one leader, and with these last ticks for all lengths."""
        if not is_tied(web):
            raise BadWeb("web")
        check_party(web, leader)
        check_wait(wait)
        many = len(web.parties)
        last = {}
        for handing in web.handings:
            taker = handing[1]
            last[handing] = [self.last_at(nearest(web, taker, leader), farthest(web, taker, leader), many)] * many
        return Deal(web, [leader], last, wait)

    def last_at(self, near, far, parties):
        """The last tick at a handing with such ways from its taker to the leader."""
        return self._constant + self._per_near * near + self._per_far * far + self._per_party * parties

    def loses_with(self, parties, wait):
        """Whether a party can lose in a tied web of so many parties with one leader, who stands in each ring.

        It can if it has a slip, for all that comes to it is open equally long: if that is open by less than wait
        ticks longer than what it hands to another one. Its own longest way to the leader is always the longer one,
        at the least by one handing. Its shortest way has one handing at the least; and that of the other one, in
        which it never stands, has at most as many as there are parties but for itself, less one.
        """
        gained = 1 - (parties - 2)
        return self._per_near * gained + self._per_far < wait

    def sticks_with(self, parties, wait):
        """Whether some handing of such a web is not taken if all keep the rules.

        The word comes along the shortest ways, wait ticks later with each handing. It is late most easily where
        there is no longer way, and where the way is as long as can be: in a ring.
        """
        length = parties - 1
        return wait * length > self.last_at(length, length, parties)

    def shortcuts(self, parties):
        """The handings that a ring of these parties needs besides its own, so that somebody loses in it.

        The first one hands to the next one, whose way to the leader is the longest, and itself to the leader.
        """
        return [(parties[0], parties[-1])] if len(parties) > 2 else []


def check_rule(rule):
    """Refuse what is no rule."""
    if not isinstance(rule, (TrailRule, WayRule)):
        raise BadRule("rule")


def least_losing(rule, wait):
    """The least number of parties of a web in which some party can lose by the rule; None if there is none."""
    check_rule(rule)
    check_wait(wait)
    return min([many for many in range(2, MANY_PARTIES) if rule.loses_with(many, wait)], default=None)


def losing_web(rule, wait):
    """A triple (web, leaders, party) with the least number of parties and a party that can lose.

    None if there is none, or if no web can have so many parties.
    """
    many = least_losing(rule, wait)
    if many is None or many > len(FIRST_NAMES):
        return None
    parties = list(FIRST_NAMES[:many])
    ring = list(zip(parties, parties[1:] + parties[:1]))
    return (Web(parties, ring + rule.shortcuts(parties)), (parties[-1],), parties[0])


def least_stuck(rule, wait):
    """The least number of parties of a tied web that does not go through by the rule; None if there is none."""
    check_rule(rule)
    check_wait(wait)
    return min([many for many in range(2, MANY_PARTIES) if rule.sticks_with(many, wait)], default=None)


def most_wait(rule):
    """The greatest wait with which nobody can lose by the rule, 0 if there is none."""
    return max([wait for wait in range(1, 6) if least_losing(rule, wait) is None], default=0)

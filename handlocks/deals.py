"""Deals: a web with leaders, the last ticks of its handings and a wait; and the trails of words in it."""

from handlocks.errors import BadDeal, BadLeaders, BadNumber, NoHanding, NoParty
from handlocks.kinds import is_list, is_number_within
from handlocks.laying import are_parties_of
from handlocks.webs import Web, ways

NEVER = -1
LAST_TICK = 99


def are_deal_leaders(web, value):
    """Whether the value is a list of 1 to 3 different parties of the web."""
    return are_parties_of(web, value) and 1 <= len(value) <= 3


def is_last_tick(value):
    """Whether the value is a number that can stand in last."""
    return is_number_within(value, NEVER, LAST_TICK)


def is_last_row(web, value):
    """Whether the value is a list of as many last ticks as there are parties."""
    return is_list(value) and len(value) == len(web.parties) and all([is_last_tick(item) for item in value])


def is_last(web, value):
    """Whether the value is a dict from just the handings of the web to rows of last ticks."""
    if not isinstance(value, dict) or len(value) != len(web.handings):
        return False
    return all([handing in value and is_last_row(web, value[handing]) for handing in web.handings])


def is_wait(value):
    """Whether the value is a number that can be a wait."""
    return is_number_within(value, 1, 5)


class Deal:
    """A web, its leaders, how late which word can be shown at which handing, and how late it is seen there."""

    def __init__(self, web, leaders, last, wait):
        if not isinstance(web, Web):
            raise BadDeal("web")
        if not are_deal_leaders(web, leaders):
            raise BadDeal("leaders")
        if not is_last(web, last):
            raise BadDeal("last")
        if not is_wait(wait):
            raise BadDeal("wait")
        self._web = web
        self._leaders = tuple(sorted(leaders))
        self._last = {handing: tuple(last[handing]) for handing in web.handings}
        self._wait = wait

    @property
    def web(self):
        """The web."""
        return self._web

    @property
    def leaders(self):
        """The leaders, as an ascending tuple."""
        return self._leaders

    @property
    def last(self):
        """The dict from the handings, ascending, to the tuples of their last ticks by the length of a trail."""
        return {handing: self._last[handing] for handing in self._last}

    @property
    def wait(self):
        """So many ticks later a keeper sees what is shown."""
        return self._wait

    def __eq__(self, other):
        return (isinstance(other, Deal) and self._web == other._web and self._leaders == other._leaders
                and self._last == other._last and self._wait == other._wait)

    def with_last(self, handing, length, tick):
        """The deal in which trails of this length can be shown at this handing up to this tick."""
        check_handing(self, handing)
        if not is_number_within(length, 0, len(self._web.parties) - 1):
            raise BadNumber(length)
        if not is_last_tick(tick):
            raise BadNumber(tick)
        row = list(self._last[handing])
        row[length] = tick
        last = self.last
        last[handing] = row
        return Deal(self._web, self._leaders, last, self._wait)

    def with_wait(self, wait):
        """The deal with another wait."""
        if not is_wait(wait):
            raise BadNumber(wait)
        return Deal(self._web, self._leaders, self._last, wait)

    def with_leaders(self, leaders):
        """The deal with other leaders."""
        if not are_deal_leaders(self._web, leaders):
            raise BadLeaders("leaders must be a list of 1 to 3 different parties of the web")
        return Deal(self._web, leaders, self._last, self._wait)


def check_deal(deal):
    """Refuse what is no deal."""
    if not isinstance(deal, Deal):
        raise BadDeal("deal")


def check_handing(deal, handing):
    """Refuse what is no handing of the deal."""
    if handing not in deal.web.handings:
        raise NoHanding(handing)


def last_for(deal, handing, length):
    """The last tick at which a word can be shown there with a trail of this length; -1 if it never can."""
    return deal._last[handing][length]


def in_time(deal, tick, handing, trail):
    """Whether the word can be shown there with this trail at this tick, a number from 0 on."""
    return tick <= last_for(deal, handing, len(trail) - 1)


def trails(deal, handing, leader):
    """All trails at the handing to this leader, shorter first."""
    check_deal(deal)
    check_handing(deal, handing)
    if leader not in deal.leaders:
        raise NoParty(leader)
    return ways(deal.web, handing[1], leader)


def open_until(deal, handing):
    """How late the words of all leaders can be shown there; -1 if no trail leads to one of them."""
    check_deal(deal)
    check_handing(deal, handing)
    latest = []
    for leader in deal.leaders:
        ticks = [last_for(deal, handing, len(trail) - 1) for trail in trails(deal, handing, leader)]
        latest.append(max(ticks, default=NEVER))
    return min(latest)

"""Webs of parties who hand things to one another: their ways, rings and closed lots."""

from handlocks.errors import BadWeb, NoHanding, NoParty
from handlocks.kinds import is_list, is_name


def are_parties(value):
    """Whether the value is a list of 2 to 6 different names."""
    if not is_list(value) or not 2 <= len(value) <= 6:
        return False
    return all([is_name(item) for item in value]) and len(set(value)) == len(value)


def is_handing(value, parties):
    """Whether the value is a pair of two different ones of the parties."""
    if not isinstance(value, tuple) or len(value) != 2:
        return False
    giver, taker = value
    return giver in parties and taker in parties and giver != taker


def are_handings(value, parties):
    """Whether the value is a list of 1 to 12 different handings between the parties."""
    if not is_list(value) or not 1 <= len(value) <= 12:
        return False
    return all([is_handing(item, parties) for item in value]) and len(set(value)) == len(value)


class Web:
    """Some parties, and which of them hands a thing to which."""

    def __init__(self, parties, handings):
        if not are_parties(parties):
            raise BadWeb("parties")
        if not are_handings(handings, parties):
            raise BadWeb("handings")
        self._parties = tuple(sorted(parties))
        self._handings = tuple(sorted(handings))

    @property
    def parties(self):
        """The parties, as an ascending tuple."""
        return self._parties

    @property
    def handings(self):
        """The handings, as an ascending tuple."""
        return self._handings

    def __eq__(self, other):
        return isinstance(other, Web) and self._parties == other._parties and self._handings == other._handings

    def ins(self, party):
        """The handings whose taker the party is, ascending."""
        check_party(self, party)
        return tuple([handing for handing in self._handings if handing[1] == party])

    def outs(self, party):
        """The handings whose giver the party is, ascending."""
        check_party(self, party)
        return tuple([handing for handing in self._handings if handing[0] == party])

    def with_handing(self, handing):
        """The web with this handing more."""
        if not is_handing(handing, self._parties) or handing in self._handings:
            raise NoHanding(handing)
        return Web(self._parties, self._handings + (handing,))

    def without(self, handing):
        """The web with this handing less."""
        if handing not in self._handings:
            raise NoHanding(handing)
        return Web(self._parties, [other for other in self._handings if other != handing])

    def turned(self):
        """The web with all handings turned about."""
        return Web(self._parties, [(taker, giver) for giver, taker in self._handings])


def check_web(web):
    """Refuse what is no web."""
    if not isinstance(web, Web):
        raise BadWeb("web")


def check_party(web, party):
    """Refuse what is no party of the web."""
    if party not in web.parties:
        raise NoParty(party)


def shorter_first(rows):
    """The tuples by length, then ascending, as a new list."""
    return sorted(rows, key=lambda row: (len(row), row))


def ways_from(web, start):
    """All ways that begin with this party."""
    found = []
    longest = [(start,)]
    while longest:
        found.extend(longest)
        longest = [way + (taker,) for way in longest for _, taker in web.outs(way[-1]) if taker not in way]
    return found


def ways(web, start, end):
    """All ways from one party to another or to itself, shorter first."""
    check_web(web)
    check_party(web, start)
    check_party(web, end)
    return shorter_first([way for way in ways_from(web, start) if way[-1] == end])


def lengths(web, start, end):
    """The lengths of all ways from one party to another or to itself, ascending."""
    return [len(way) - 1 for way in ways(web, start, end)]


def nearest(web, start, end):
    """The least length of a way, None if there is no way."""
    found = lengths(web, start, end)
    return found[0] if found else None


def farthest(web, start, end):
    """The greatest length of a way, None if there is no way."""
    found = lengths(web, start, end)
    return found[-1] if found else None


def rings(web):
    """All rings, each beginning with its least party, shorter first."""
    check_web(web)
    found = []
    for party in web.parties:
        for way in ways_from(web, party):
            # A party alone makes no ring: nobody hands anything to itself.
            if min(way) == party and (way[-1], party) in web.handings:
                found.append(way)
    return shorter_first(found)


def reached(web, start):
    """The lot of the parties to whom a way from this party leads."""
    return tuple(sorted({way[-1] for way in ways_from(web, start)}))


def is_tied(web):
    """Whether there is a way from each party to each party."""
    check_web(web)
    return all([reached(web, party) == web.parties for party in web.parties])


def is_least_closed(web, lot):
    """Whether this lot is closed and no smaller closed lot is within it.

    The smallest closed lot that has a party is the lot that this party reaches.
    """
    return all([reached(web, party) == lot for party in lot])


def closed_lots(web):
    """The closed lots within which there is no smaller closed one, shorter first."""
    check_web(web)
    found = []
    for party in web.parties:
        lot = reached(web, party)
        if lot != web.parties and lot not in found and is_least_closed(web, lot):
            found.append(lot)
    return shorter_first(found)

"""In which order the parties can lay what they hand out, and whether all can."""

from handlocks.errors import BadKeepers, BadLaying, BadLeaders
from handlocks.kinds import is_list
from handlocks.webs import check_web, rings


def are_parties_of(web, value):
    """Whether the value is a list of different parties of the web."""
    if not is_list(value):
        return False
    return all([item in web.parties for item in value]) and len(set(value)) == len(value)


def check_leaders(web, leaders):
    """Refuse what is no list of leaders in the web."""
    if not are_parties_of(web, leaders):
        raise BadLeaders("leaders must be a list of different parties of the web")


def check_keepers(web, keepers):
    """Refuse what is no list of keepers in the web."""
    if not are_parties_of(web, keepers):
        raise BadKeepers("keepers must be a list of different parties of the web")


def has_all_givers(web, party, ahead):
    """Whether all parties that hand something to this one are among those ahead."""
    return all([giver in ahead for giver, _ in web.ins(party)])


def is_laying(web, leaders, keepers, thing):
    """Whether the thing is a laying with these leaders and keepers."""
    check_web(web)
    check_leaders(web, leaders)
    check_keepers(web, keepers)
    if not are_parties_of(web, thing):
        return False
    for at, party in enumerate(thing):
        bound = party in keepers and party not in leaders
        if bound and not has_all_givers(web, party, thing[:at]):
            return False
    return True


def laid_by(web, laying):
    """The handings whose giver is in the list, ascending."""
    check_web(web)
    if not is_list(laying):
        raise BadLaying(None)
    for at, party in enumerate(laying):
        if party not in web.parties or party in laying[:at]:
            raise BadLaying(at)
    return tuple([handing for handing in web.handings if handing[0] in laying])


def next_layers(web, leaders, laying):
    """The parties who can be next behind this laying, all being keepers, ascending."""
    left = [party for party in web.parties if party not in laying]
    return [party for party in left if party in leaders or has_all_givers(web, party, laying)]


def longest_laying(web, leaders):
    """The laying, all being keepers, with the least party that can be next as long as there is one.

    Who can be next still can when others have gone ahead, so no choice shuts anybody out.
    """
    laying = []
    ready = next_layers(web, leaders, laying)
    while ready:
        laying.append(ready[0])
        ready = next_layers(web, leaders, laying)
    return laying


def rings_without(web, leaders):
    """The rings in which no leader stands, shorter first."""
    return [ring for ring in rings(web) if not any([party in leaders for party in ring])]


def order(web, leaders):
    """("order", laying) with a laying of all parties, or ("ring", ring) with a ring without a leader."""
    check_web(web)
    check_leaders(web, leaders)
    laying = longest_laying(web, leaders)
    if len(laying) == len(web.parties):
        return ("order", laying)
    return ("ring", rings_without(web, leaders)[0])


def is_full_laying(web, leaders, thing):
    """Whether the thing is a laying of all parties, all being keepers."""
    return is_laying(web, leaders, web.parties, thing) and len(thing) == len(web.parties)


def is_order(web, leaders, thing):
    """Whether the thing shows that all come to lay, or that not all do."""
    check_web(web)
    check_leaders(web, leaders)
    if not isinstance(thing, tuple) or len(thing) != 2:
        return False
    word, shown = thing
    if word == "order":
        return is_full_laying(web, leaders, shown)
    return word == "ring" and shown in rings_without(web, leaders)

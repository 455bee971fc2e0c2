"""A live board: a course that goes on, deed by deed."""

from handlocks.back import all_wrong, passed_over
from handlocks.courses import all_due, is_trail, taken_by
from handlocks.deals import check_deal, check_handing, in_time
from handlocks.errors import NothingDone, NotNow
from handlocks.webs import check_party


def laying_of(log):
    """The parties that have laid by these deeds, in their order."""
    return [deed[1] for deed in log if deed[0] == "lay"]


def laid_of(deal, log):
    """The handings that are laid by these deeds, ascending."""
    laying = laying_of(log)
    return [handing for handing in deal.web.handings if handing[0] in laying]


def tick_of(log):
    """The tick behind these deeds, None while the laying is not over."""
    return len([deed for deed in log if deed[0] == "tick"]) if ("start",) in log else None


def shows_of(log):
    """The shows of these deeds, ascending."""
    found = []
    tick = 0
    for deed in log:
        if deed[0] == "tick":
            tick += 1
        elif deed[0] == "show":
            found.append((tick, deed[1], deed[2]))
    return sorted(found)


class Block:
    """What a board had done when the block began, and the block around it, None if there is none."""

    def __init__(self, deeds, outer):
        self.deeds = deeds
        self.outer = outer


class Board:
    """A course of a deal that goes on.

    All that a board tells follows from its log, a tuple that is never changed but replaced: so whatever is undone,
    refused or left by an exception leaves nothing behind.
    """

    def __init__(self, deal):
        check_deal(deal)
        self._deal = deal
        self._log = ()
        self._block = None

    @property
    def deal(self):
        """The deal."""
        return self._deal

    @property
    def tick(self):
        """The tick, None while the laying is not over."""
        return tick_of(self._log)

    @property
    def course(self):
        """The course up to now: what is laid and shown."""
        return (laying_of(self._log), shows_of(self._log))

    @property
    def log(self):
        """The list of the deeds that stand."""
        return list(self._log)

    @property
    def taken(self):
        """The handings that are taken, ascending."""
        return taken_by(self._deal, laid_of(self._deal, self._log), shows_of(self._log))

    def __eq__(self, other):
        return isinstance(other, Board) and self._deal == other._deal and self._log == other._log

    def __enter__(self):
        self._block = Block(self._log, self._block)
        return self

    def __exit__(self, kind, value, trace):
        if kind is not None:
            self._log = self._block.deeds
        self._block = self._block.outer

    def lay(self, party):
        """The party lays."""
        check_party(self._deal.web, party)
        if self.tick is not None or party in laying_of(self._log):
            raise NotNow("lay")
        self.note(("lay", party))

    def start(self):
        """The laying is over, and it is tick 0."""
        if self.tick is not None:
            raise NotNow("start")
        self.note(("start",))

    def show(self, handing, trail):
        """The taker of the handing shows there, at this tick, the word of the last party of the trail."""
        check_handing(self._deal, handing)
        if not self.can_show(handing, trail):
            raise NotNow("show")
        self.note(("show", handing, trail))

    def pass_tick(self):
        """The next tick comes."""
        if self.tick is None:
            raise NotNow("tick")
        self.note(("tick",))

    def undo(self):
        """Take back the last deed that stands."""
        if len(self._log) == 0:
            raise NothingDone("there is no deed to take back")
        self._log = self._log[:-1]

    def note(self, deed):
        """Put a deed behind those that stand."""
        self._log = self._log + (deed,)

    def can_show(self, handing, trail):
        """Whether any value can be shown as a trail at this handing now."""
        tick = self.tick
        if tick is None or handing not in laid_of(self._deal, self._log) or not is_trail(self._deal, handing, trail):
            return False
        shown = [(place, other[-1]) for _, place, other in shows_of(self._log)]
        return in_time(self._deal, tick, handing, trail) and (handing, trail[-1]) not in shown

    def must(self, party):
        """The pairs (handing, trail) that the party must show at this tick and has not shown, ascending."""
        check_party(self._deal.web, party)
        shows = shows_of(self._log)
        due = all_due(self._deal, laid_of(self._deal, self._log), shows, party)
        now = self.tick
        return [(handing, trail) for tick, handing, trail in due if tick == now and (tick, handing, trail) not in shows]

    def faults(self):
        """The parties that have not acted as keepers up to now, ascending."""
        return tuple([party for party in self._deal.web.parties if self.is_at_fault(party)])

    def is_at_fault(self, party):
        """Whether the party has done what a keeper must not, or has not shown what it had to at an earlier tick."""
        laying, shows = self.course
        added, left = all_wrong(self._deal, laying, shows, party)
        now = self.tick
        late = [show for show in left if now is not None and show[0] < now]
        return len(added) > 0 or len(late) > 0 or len(passed_over(self._deal, laying, party)) > 0

    def tried(self, work):
        """What work gives for the board; if it raises an exception, the board is as it was before."""
        with self:
            return work(self)

    def copy(self):
        """An independent board with the same deeds, in no block."""
        other = Board(self._deal)
        other._log = self._log
        return other

"""The errors: one class for each kind of failure, all directly below LockError."""


def copied(value):
    """A copy of any value, new at every depth.

    An error outlives the call that raised it, and what was passed to that call
    may be changed later: the attribute must not change with it.
    """
    if isinstance(value, list):
        return [copied(item) for item in value]
    if isinstance(value, tuple):
        return tuple([copied(item) for item in value])
    if isinstance(value, dict):
        return {key: copied(value[key]) for key in value}
    return value


class LockError(ValueError):
    """The base class of all errors of the package."""


class BadWeb(LockError):
    """What should make or be a web does not; part names the parameter."""

    def __init__(self, part):
        super().__init__("this makes no web")
        self.part = copied(part)


class NoParty(LockError):
    """This is no party that is meant here."""

    def __init__(self, party):
        super().__init__("there is no such party")
        self.party = copied(party)


class NoHanding(LockError):
    """This is no handing that is meant here."""

    def __init__(self, handing):
        super().__init__("there is no such handing")
        self.handing = copied(handing)


class BadLeaders(LockError):
    """What should be a list of leaders is none."""


class BadKeepers(LockError):
    """What should be a list of keepers is none."""


class BadLaying(LockError):
    """What should be a laying is none; at is the index of the first wrong item, or None."""

    def __init__(self, at):
        super().__init__("this is no laying")
        self.at = copied(at)


class BadDeal(LockError):
    """What should make or be a deal does not; part names the parameter."""

    def __init__(self, part):
        super().__init__("this makes no deal")
        self.part = copied(part)


class BadNumber(LockError):
    """This is no number that may stand here."""

    def __init__(self, number):
        super().__init__("this is no number that may stand here")
        self.number = copied(number)


class BadCourse(LockError):
    """What should be a course, or shows of one, is not."""


class BadRule(LockError):
    """What should make or be a rule does not; part names the parameter."""

    def __init__(self, part):
        super().__init__("this makes no rule")
        self.part = copied(part)


class NotNow(LockError):
    """A deed that cannot be done now; word names the deed."""

    def __init__(self, word):
        super().__init__("this cannot be done now")
        self.word = copied(word)


class NothingDone(LockError):
    """There is no deed to take back."""


class BadJournal(LockError):
    """What should be a journal is none; at is the index of the first wrong entry."""

    def __init__(self, at):
        super().__init__("this is no journal")
        self.at = copied(at)


class BadText(LockError):
    """A text that cannot be read; line is the number of the first wrong line."""

    def __init__(self, line):
        super().__init__("this text cannot be read")
        self.line = copied(line)

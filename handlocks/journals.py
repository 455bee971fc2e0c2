"""Journals: the deeds of a board, each with what is taken behind it."""

from handlocks.errors import BadJournal, LockError
from handlocks.kinds import is_list
from handlocks.live import Board


def do(board, deed):
    """Do any value as a deed on the board; whether it has the form of one."""
    if not isinstance(deed, tuple) or len(deed) == 0:
        return False
    word, *told = deed
    if word == "lay" and len(told) == 1:
        board.lay(told[0])
    elif word == "show" and len(told) == 2:
        board.show(told[0], told[1])
    elif deed == ("start",):
        board.start()
    elif deed == ("tick",):
        board.pass_tick()
    elif deed == ("undo",):
        board.undo()
    else:
        return False
    return True


def goes_on(board, entry):
    """Whether any value can be the next entry of a journal of the board; then the board has done its deed."""
    if not isinstance(entry, tuple) or len(entry) != 2:
        return False
    deed, gone = entry
    try:
        done = do(board, deed)
    except LockError:
        return False
    return done and gone == board.taken


def journal_of(board):
    """The journal of the deeds that stand on the board."""
    other = Board(board.deal)
    journal = []
    for deed in board.log:
        do(other, deed)
        journal.append((deed, other.taken))
    return journal


def first_wrong(deal, journal):
    """The index of the first wrong entry of any value as journal, 0 if it is no list, None if nothing is wrong."""
    board = Board(deal)
    if not is_list(journal):
        return 0
    for at, entry in enumerate(journal):
        if not goes_on(board, entry):
            return at
    return None


def replayed(deal, journal):
    """The board behind the journal."""
    wrong = first_wrong(deal, journal)
    if wrong is not None:
        raise BadJournal(wrong)
    board = Board(deal)
    for deed, _ in journal:
        do(board, deed)
    return board

"""Of what kind a value is, in the document's words."""

LETTERS = "abcdefghijklmnopqrstuvwxyz"


def is_list(value):
    """Whether the value can stand where a list is documented."""
    return isinstance(value, (list, tuple))


def is_name(value):
    """Whether the value is a text of 1 to 6 letters a to z."""
    return isinstance(value, str) and 1 <= len(value) <= 6 and all([sign in LETTERS for sign in value])


def is_number(value):
    """Whether the value is an int that is not a bool."""
    return isinstance(value, int) and not isinstance(value, bool)


def is_number_within(value, least, greatest):
    """Whether the value is a number from the least to the greatest one."""
    return is_number(value) and least <= value <= greatest

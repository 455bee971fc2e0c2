"""Of what kind a value is, in the document's words."""

LETTERS = "abcdefghijklmnopqrstuvwxyz"


def is_list(value):
    """Whether the value can stand where a list is documented."""
    return isinstance(value, (list, tuple))


def is_name(value):
    """Whether the value is a text of 1 to 6 letters a to z."""
    return isinstance(value, str) and 1 <= len(value) <= 6 and all([sign in LETTERS for sign in value])

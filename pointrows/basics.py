"""What kind a value is: an INTEGER, a COUNT, a list."""


def is_integer(value):
    """Whether any value is an INTEGER: an int, but no truth."""
    return isinstance(value, int) and not isinstance(value, bool)


def is_count(value):
    """Whether any value is an INTEGER that is at least 0."""
    return is_integer(value) and value >= 0


def is_list(value):
    """Whether any value may stand where a list is wanted: a list or a tuple."""
    return isinstance(value, (list, tuple))

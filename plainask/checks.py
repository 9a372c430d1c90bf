"""What counts as a number, and what as a list."""


def is_integer(value):
    """Tell whether the value is an integer."""
    # To Python, True and False are integers; to the program they are not.
    return isinstance(value, int) and not isinstance(value, bool)


def is_natural(value):
    """Tell whether the value is an integer from 0."""
    return is_integer(value) and value >= 0


def is_list(value):
    """Tell whether the value is a list, or a tuple in the place of one."""
    return isinstance(value, (list, tuple))

"""What counts as a number."""


def is_natural(value):
    """Tell whether the value is an integer from 0."""
    # To Python, True and False are integers; to the program they are not.
    return isinstance(value, int) and not isinstance(value, bool) and value >= 0

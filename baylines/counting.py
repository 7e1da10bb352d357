"""Which values are integers, and where they lie."""


def is_within(low, high, value):
    """Return whether value, any value, is an integer from low to high."""
    # A bool is an int in Python, but True is not 1 here.
    return isinstance(value, int) and not isinstance(value, bool) and low <= value <= high

"""What integers and pairs are, asked of values of any kind."""


def is_integer_between(value, least, most):
    """Return whether value is an integer from least to most."""
    # To Python a bool is an int, but here True is not 1, nor False 0.
    if isinstance(value, bool) or not isinstance(value, int):
        return False
    return least <= value <= most


def is_pair(value):
    """Return whether value is a tuple of two items."""
    return isinstance(value, tuple) and len(value) == 2

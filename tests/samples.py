"""Values of all kinds, and what tells whether one is still as it was."""

from swapstops import errors


def nested(depth, kind):
    value = kind()
    for _ in range(depth - 1):
        value = kind([value])
    return value


def no_numbers():
    """Values that are no integers, made anew."""
    bad = errors.BadNet(("order", 1))
    return [
        None, True, False,
        "", "0", "1", "form", "3: 0>1", "a\nb", "x" * 20000,
        (), (0,), (1, 0, 2), (None, None), (True, False), ((),), ((0, 1),), ([],), ({},),
        [], [0], [0, 1], [3, ()], [(0, 1)],
        {}, {0: 1}, {1: 0, 0: 1}, {"n": [3]}, {(0, 1): {}}, {None: True, "a": (1, [2])},
        ([0], [1]), ({0: 1}, 1), (0, [1]), (0, {1: 2}), ((0, 1), [1]), (0, (1,)),
        nested(20, tuple), nested(20, list), (0,) * 4000, [None] * 4000,
        errors.Unfit(), errors.Apart(), bad, errors.BadLog([1, {2: 3}]),
        (bad, bad), (0, bad), [bad], {"error": bad},
    ]


def integers():
    return [0, 1, -1, 2, 3, 12, 13, 10 ** 30, 10 ** 400 - 1, 1 - 10 ** 400]


def any_values():
    """Values of all kinds, made anew."""
    return integers() + no_numbers()


def picture(value):
    """What a value is in all its parts, which stays as it is if the value is changed."""
    if isinstance(value, (tuple, list)):
        return (type(value).__name__, tuple(picture(item) for item in value))
    if isinstance(value, dict):
        return ("dict", tuple((picture(key), picture(value[key])) for key in value))
    if isinstance(value, Exception):
        return (type(value).__name__, picture(value.args), picture(vars(value)))
    return (type(value).__name__, value)

"""Values of all kinds, and what tells whether one is still as it was."""

from swapstops import errors
from swapstops.desks import Desk


def nested(depth, kind):
    value = kind()
    for _ in range(depth - 1):
        value = kind([value])
    return value


def no_numbers():
    """Values that are no integers, made anew."""
    bad = errors.BadNet(("order", 1))
    return [
        None, True, False,
        "", "0", "1", "form", "3: 0>1", "a\nb", "x" * 20000,
        (), (0,), (1, 0, 2), (None, None), (True, False), ((),), ((0, 1),), ([],), ({},),
        [], [0], [0, 1], [3, ()], [(0, 1)],
        {}, {0: 1}, {1: 0, 0: 1}, {"n": [3]}, {(0, 1): {}}, {None: True, "a": (1, [2])},
        ([0], [1]), ({0: 1}, 1), (0, [1]), (0, {1: 2}), ((0, 1), [1]), (0, (1,)),
        nested(20, tuple), nested(20, list), (0,) * 4000, [None] * 4000,
        errors.Unfit(), errors.Apart(), bad, errors.BadLog([1, {2: 3}]),
        (bad, bad), (0, bad), [bad], {"error": bad},
        errors.Barred(("sign",)), errors.NoWay(((0, 3, 0),)), errors.NoVersion([1]),
        a_desk(), (a_desk(), 1), [a_desk()],
    ]


def returned_values():
    """Values that the package returns, made anew."""
    return [
        (3, ((0, 1), (1, 2), (2, 0))), ((0, 1, 2, 3), 0), (0, 1, 2, 0), (((0, 1, 2, 0), 5), ((0, 1), 1)),
        ((0, 1), (2,)), ((0, 1, 2, 4, 3, 5),) * 5, ("still",), ("sign",), ("next", 1), ("ratio", (0, 1, 2, 3)),
        ((0, 3, 0), (2, 1, 1)), (((0, 1, 2, 3), 0), ((3, 1, 2, 0), 1)), ("order", 1), ("step", 1), ("put", (0, 1)),
        (("step", 1), ("drop", (0, 1))), "ring", "3: 0>1 1>2 2>0",
    ]


def a_desk():
    """A desk of which some edits stand, and one was taken back."""
    desk = Desk((3, ((0, 1), (1, 2))), ((0, 1, 2, 3), 0))
    desk.step(1)
    desk.put((1, 0))
    desk.drop((1, 2))
    desk.undo()
    return desk


def integers():
    return [0, 1, -1, 2, 3, 12, 13, 10 ** 30, 10 ** 400 - 1, 1 - 10 ** 400]


def any_values():
    """Values of all kinds, made anew."""
    return integers() + no_numbers()


def picture(value):
    """What a value is in all its parts, which stays as it is if the value is changed."""
    if isinstance(value, (tuple, list)):
        return (type(value).__name__, tuple(picture(item) for item in value))
    if isinstance(value, dict):
        return ("dict", tuple((picture(key), picture(value[key])) for key in value))
    if isinstance(value, Desk):
        return ("Desk", picture((value.net, value.standing, value.version, value.log, vars(value))))
    if isinstance(value, Exception):
        return (type(value).__name__, picture(value.args), picture(vars(value)))
    return (type(value).__name__, value)

"""Texts of nets: how a net is written in one line, and how it is read."""

from swapstops.bounds import MAX_STOPS
from swapstops.errors import BadText
from swapstops.nets import net_error


def net_text(net):
    """Return the text of net."""
    n, arrows = net
    return f"{n}:" + "".join([f" {v}>{w}" for v, w in arrows])


def read_net(value):
    """Return the net of which value is the text; BadText() if there is none."""
    if not isinstance(value, str):
        raise BadText()
    head, *words = value.split(" ")
    if not head.endswith(":"):
        raise BadText()
    net = (number_in(head[:-1]), tuple([ends_in(word) for word in words]))
    if net_error(net) is not None:
        raise BadText()
    return net


def ends_in(word):
    """Return both numbers of a word like "0>1", None in the place of each that is none."""
    v, _, w = word.partition(">")
    return (number_in(v), number_in(w))


def number_in(word):
    """Return the number from 0 to MAX_STOPS that word is in decimal, None if it is none."""
    # int would take signs, blanks and noughts ahead, too, and fail at very many figures.
    for number in range(MAX_STOPS + 1):
        if str(number) == word:
            return number
    return None

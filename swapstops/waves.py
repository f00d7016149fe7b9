"""Fewest steps, found by going through all standings that come."""

from swapstops.lots import leads, spread
from swapstops.runs import done


def fewest_steps(net, one, other):
    """Return how many steps at least lead one to other, None if no run does."""
    return steps_to_all(net, one).get(other)


def farthest(net, one):
    """Return the most of all fewest steps from one, and the least standing that has it."""
    fewest = steps_to_all(net, one)
    many = max(list(fewest.values()))
    return (many, min([standing for standing in fewest if fewest[standing] == many]))


def steps_to_all(net, one):
    """Return a dict with each standing to which one comes, and the fewest steps to it."""
    ahead = leads(net)
    return spread(one, lambda standing: [done(standing, (standing[1], w)) for w in ahead[standing[1]]])

import itertools
import random

from swapstops.coming import bar, bar_holds, comes
from swapstops.errors import Apart, SwapError
from swapstops.names import ratio
from tests.calls import CallCase, outcome
from tests.drawn import (both_ways, called, drawn_halves, drawn_joined, drawn_standing, drawn_to, exchanged, full,
                         loose_nets, parted, ring)
from tests.models import BOW, FIVES, THETA, all_joined, all_standings, is_odd, model_of_fewest, model_of_kind
from tests.samples import any_values, integers, no_numbers, returned_values

LONE, TWO = (1, ()), (2, ((0, 1), (1, 0)))
LINE, FULL = both_ways(3, [(0, 1), (1, 2)]), full(3)
FOURS = list(itertools.permutations(range(6), 4))


def colours_of(net):
    """The colour of each stop, told along arrows from the stop 0 on."""
    found = {0: 0}
    while len(found) < net[0]:
        found |= {w: 1 - found[v] for v, w in net[1] if v in found}
    return found


def read_round(net, standing):
    """A ring's things as they are read, those that follow one another in pairs."""
    row, stop = standing
    read = [row[-1]]
    for _ in range(net[0]):
        read.append(row[stop])
        stop = dict(net[1])[stop]
    return set(zip(read, read[1:] + read[:1]))


def is_right(net, one, other, paper):
    """Whether one that has the form of a paper is one, by the words of the document."""
    kind = model_of_kind(net)
    if kind == "lone":
        return paper == ("still",) and one != other
    if kind == "half":
        moved = [one[0].index(thing) for thing in other[0]]
        shades = colours_of(net)
        return paper == ("sign",) and is_odd(moved) == (shades[one[1]] == shades[other[1]])
    if kind == "ring":
        new = read_round(net, other) - read_round(net, one)
        return paper in [("next", thing) for thing, _ in new]
    if kind == "five":
        return paper[0] == "ratio" and ratio(net, one, paper[1]) != ratio(net, other, paper[1])
    return False


def all_kinds():
    """Joined nets of all kinds and of one to twelve stops."""
    yield from (LONE, TWO, LINE, FULL, BOW, THETA, FIVES[33], FIVES[150])
    for n in range(3, 13):
        yield ring(n)
        yield full(n)
        yield called(ring(n), random.Random(n).sample(range(n), n))
    yield from drawn_joined("kinds")
    yield from drawn_halves("kinds", 2)


class ComingCase(CallCase):

    def assert_comes(self, net, one, other):
        self.assert_tells(True, comes, net=net, one=one, other=other)
        self.assert_tells(None, bar, net=net, one=one, other=other)

    def assert_barred(self, net, one, other):
        """Does not come; bar tells a paper by the document's words. Returns it."""
        self.assert_tells(False, comes, net=net, one=one, other=other)
        paper = outcome(bar, net, one, other)
        self.assert_tells(paper, bar, net=net, one=one, other=other)
        self.assertTrue(is_right(net, one, other, paper))
        self.assert_holds(True, net, one, other, paper)
        return paper

    def assert_holds(self, told, net, one, other, value):
        self.assert_tells(told, bar_holds, net=net, one=one, other=other, value=value)


class ComesTest(ComingCase):

    def assert_as_gone_through(self, net, one, others):
        found = model_of_fewest(net, one)
        for other in others:
            if other in found:
                self.assert_comes(net, one, other)
            else:
                self.assert_barred(net, one, other)

    def test_all_joined_nets_of_up_to_three_stops(self):
        draw = random.Random("three")
        for n in (1, 2, 3):
            told = all_standings(n)
            for net in all_joined(n):
                for one in [told[0], told[-1], draw.choice(told)]:
                    self.assert_as_gone_through(net, one, told)

    def test_joined_nets_of_four_stops(self):
        draw = random.Random("four")
        told = all_standings(4)
        nets = all_joined(4)
        self.assertEqual(len(nets), 1606)
        for net in nets[::5] + [net for net in nets if model_of_kind(net) == "ring"]:
            self.assert_as_gone_through(net, draw.choice(told), draw.sample(told, 6))

    def test_nets_of_five_stops(self):
        draw = random.Random("five stops")
        told = all_standings(5)
        nets = [net for net in [*drawn_joined("five stops", 8), *drawn_halves("five stops", 4)] if net[0] == 5]
        self.assertEqual({model_of_kind(net) for net in nets} - {"ring"}, {"all", "half"})
        for net in nets + [full(5), ring(5), parted(5, (0, 1, 1, 0, 1))]:
            self.assert_as_gone_through(net, draw.choice(told), draw.sample(told, 100))

    def test_both_fives(self):
        told = all_standings(5)
        for net in (BOW, THETA):
            one = told[777]
            found = model_of_fewest(net, one)
            self.assertEqual(len(found), 600)
            self.assertEqual([other for other in told if comes(net, one, other)], sorted(found))

    def test_fives_called_anyhow(self):
        draw = random.Random("fives")
        told = all_standings(5)
        for net in FIVES[::6]:
            one = draw.choice(told)
            self.assert_as_gone_through(net, one, draw.sample(told, 20) + [drawn_to(draw, net, one)])

    def test_by_runs_in_nets_of_all_kinds(self):
        draw = random.Random("runs")
        for net in all_kinds():
            one = drawn_standing(draw, net[0])
            for steps in (0, 1, 2, 9, 80):
                self.assert_comes(net, one, drawn_to(draw, net, one, steps))

    def test_nets_of_the_kind_all(self):
        draw = random.Random("all")
        for net in all_kinds():
            if model_of_kind(net) == "all":
                for _ in range(4):
                    self.assert_comes(net, drawn_standing(draw, net[0]), drawn_standing(draw, net[0]))

    def test_rings(self):
        draw = random.Random("rings")
        for n in range(3, 13):
            for net in (ring(n), called(ring(n), draw.sample(range(n), n))):
                one = drawn_standing(draw, n)
                other = one
                for _ in range(n * (n + 1) - 1):
                    other = drawn_to(draw, net, other, 1)
                    self.assertTrue(comes(net, one, other))
                    self.assertFalse(comes(net, one, exchanged(other, 0, draw.randint(1, n))))
                self.assertEqual(drawn_to(draw, net, other, 1), one)
                for stop in set(range(n)) - {one[1]}:
                    self.assert_barred(net, one, (one[0], stop))

    def test_halves(self):
        draw = random.Random("halves")
        for net in [TWO, *drawn_halves("coming"), both_ways(12, [(0, stop) for stop in range(1, 12)])]:
            n = net[0]
            shades = colours_of(net)
            row = drawn_standing(draw, n)[0]
            one = (row, draw.randrange(n))
            turned = exchanged(one, *draw.sample(range(n + 1), 2))[0]
            for stop in range(n):
                same, odd = (one, (row, stop)), (one, (turned, stop))
                even = shades[stop] == shades[one[1]]
                self.assert_comes(net, *(same if even else odd))
                self.assertEqual(self.assert_barred(net, *(odd if even else same)), ("sign",))

    def test_a_lone_net(self):
        for one, other in itertools.product(all_standings(1), repeat=2):
            if one == other:
                self.assert_comes(LONE, one, other)
            else:
                self.assertEqual(self.assert_barred(LONE, one, other), ("still",))


class BarHoldsTest(ComingCase):

    def assert_papers(self, net, one, other):
        """Just those that are papers by the words of the document hold."""
        n = net[0]
        tried = [("still",), ("sign",)] + [("next", thing) for thing in range(n + 1)]
        for paper in tried + [("ratio", things) for things in FOURS]:
            told = is_right(net, one, other, paper)
            self.assertEqual(bar_holds(net, one, other, paper), told, (net, one, other, paper))
        for paper in (("next", -1), ("next", n + 1), ("ratio", (0, 1, 2, 6)), ("ratio", (0, 1, 2, 0))):
            self.assert_holds(False, net, one, other, paper)

    def test_all_papers_of_small_nets(self):
        draw = random.Random("papers")
        for net in (LONE, TWO, LINE, FULL, ring(3), ring(4), (3, ((0, 2), (1, 0), (2, 1)))):
            told = all_standings(net[0])
            for _ in range(30):
                self.assert_papers(net, draw.choice(told), draw.choice(told))
            self.assert_papers(net, told[3 % len(told)], told[3 % len(told)])

    def test_all_papers_of_fives(self):
        draw = random.Random("ratios")
        for net in (BOW, THETA, FIVES[40], FIVES[90]):
            one = drawn_standing(draw, 5)
            for other in (one, drawn_to(draw, net, one), drawn_standing(draw, 5), exchanged(one, 0, 5)):
                self.assert_papers(net, one, other)

    def test_papers_of_rings_called_anyhow(self):
        draw = random.Random("next")
        for n in range(3, 13):
            net = called(ring(n), draw.sample(range(n), n))
            one = drawn_standing(draw, n)
            for other in (one, drawn_to(draw, net, one), drawn_standing(draw, n), exchanged(one, 0, n)):
                for thing in range(n + 1):
                    told = is_right(net, one, other, ("next", thing))
                    self.assert_holds(told, net, one, other, ("next", thing))

    def test_no_paper_where_it_comes(self):
        draw = random.Random("no paper")
        for net in all_kinds():
            one = drawn_standing(draw, net[0])
            other = drawn_to(draw, net, one)
            for paper in (("still",), ("sign",), ("next", 0), ("ratio", (0, 1, 2, 3)), None):
                self.assert_holds(False, net, one, other, paper)

    def barred(self):
        """Nets, standings and a right paper, one of each kind of paper and more."""
        draw = random.Random("barred")
        for net in (LONE, TWO, LINE, ring(3), ring(12), BOW, THETA, parted(12, (0, 1) * 6)):
            one = drawn_standing(draw, net[0])
            other = exchanged(one, 0, net[0])
            yield net, one, other, bar(net, one, other)

    def test_values_of_all_kinds(self):
        for net, one, other, paper in self.barred():
            self.assert_holds(True, net, one, other, paper)
            for value in any_values():
                self.assert_holds(False, net, one, other, value)
                self.assert_holds(False, net, one, other, (paper[0], value, value))
            for value in returned_values():
                forms = (("still",), ("sign",), ("next", 1), ("ratio", (0, 1, 2, 3)))
                told = value in forms and is_right(net, one, other, value)
                self.assert_holds(told, net, one, other, value)

    def test_papers_of_other_forms(self):
        for net, one, other, paper in self.barred():
            word = paper[0]
            for value in (
                list(paper), (list(paper),), (paper,), [paper], word, (word,) + paper, paper + (0,), paper + (None,),
                (word.upper(), *paper[1:]), (word + " ", *paper[1:]), ([word], *paper[1:]), (), (None, *paper[1:]),
                {word: paper[1:]}, dict([paper]) if len(paper) == 2 else {}, paper[::-1] if len(paper) > 1 else (1,),
            ):
                self.assert_holds(False, net, one, other, value)

    def test_papers_of_other_kinds(self):
        for net, one, other, paper in self.barred():
            for _, _, _, value in self.barred():
                if value[0] != paper[0]:
                    self.assert_holds(False, net, one, other, value)

    def test_wrong_things(self):
        one = ((0, 1, 2, 3), 0)
        other = ((0, 1, 3, 2), 0)
        self.assert_holds(True, ring(3), one, other, ("next", 1))
        wrong = no_numbers() + [thing for thing in integers() + [4, -2] if not 0 <= thing <= 3]
        for thing in wrong:
            self.assert_holds(False, ring(3), one, other, ("next", thing))
        self.assertEqual([bar_holds(ring(3), one, other, ("next", thing)) for thing in range(4)], [False, True, True, True])

    def test_wrong_fours(self):
        begin, turned = ((0, 1, 2, 3, 4, 5), 0), ((1, 0, 2, 3, 4, 5), 0)
        right = [things for things in FOURS if ratio(BOW, begin, things) != ratio(BOW, turned, things)]
        self.assertTrue(right)
        for things in right[::20] + [(0, 1, 2, 4)]:
            self.assert_holds(True, BOW, begin, turned, ("ratio", things))
            for value in (
                list(things), things[:3], things + things[:1], things[:3] + things[:1], (things,), set(things) and None,
                tuple(str(thing) for thing in things), dict.fromkeys(things), (things[0],) * 4, things[:2] + things[:2],
            ):
                self.assert_holds(False, BOW, begin, turned, ("ratio", value))
        for thing in no_numbers() + [6, -1, 10 ** 30, -5]:
            self.assert_holds(False, BOW, begin, turned, ("ratio", (0, thing, 2, 4)))
            self.assert_holds(False, BOW, begin, turned, ("ratio", (thing, 1, 2, 4)))

    def test_true_is_not_one(self):
        begin, turned = ((0, 1, 2, 3, 4, 5), 0), ((1, 0, 2, 3, 4, 5), 0)
        self.assert_holds(False, BOW, begin, turned, ("ratio", (0, True, 2, 4)))
        self.assert_holds(False, BOW, begin, turned, ("ratio", (False, 1, 2, 4)))
        one, other = ((0, 1, 2, 3), 0), ((1, 0, 2, 3), 0)
        self.assert_holds(True, ring(3), one, other, ("next", 1))
        self.assert_holds(False, ring(3), one, other, ("next", True))
        self.assert_holds(True, ring(3), one, other, ("next", 0))
        self.assert_holds(False, ring(3), one, other, ("next", False))


class ApartTest(ComingCase):

    def test_ahead_of_all(self):
        draw = random.Random("apart")
        for net in [*loose_nets(), (5, BOW[1][1:]), (5, THETA[1][:-1])]:
            one = drawn_standing(draw, net[0])
            for other in (one, drawn_standing(draw, net[0])):
                self.assert_error(Apart, comes, net=net, one=one, other=other)
                self.assert_error(Apart, bar, net=net, one=one, other=other)
                for value in (None, ("sign",), ("still",), ("next", 0), ("ratio", (0, 1, 2, 3))):
                    self.assert_error(Apart, bar_holds, net=net, one=one, other=other, value=value)

    def test_whatever_the_value_is(self):
        one = ((0, 1, 2), 0)
        for value in any_values():
            self.assert_error(Apart, bar_holds, net=(2, ((0, 1),)), one=one, other=one, value=value)

    def test_is_a_swap_error(self):
        with self.assertRaises(SwapError):
            comes((2, ()), ((0, 1, 2), 0), ((0, 1, 2), 0))


class PromisesTest(ComingCase):
    """What holds by [E4]."""

    def pairs(self, seed):
        """Nets with two standings, of which the one comes to the other one or does not."""
        draw = random.Random(seed)
        for net in all_kinds():
            one = drawn_standing(draw, net[0])
            for other in (drawn_to(draw, net, one), drawn_standing(draw, net[0]), exchanged(one, 0, net[0])):
                yield draw, net, one, other

    def test_a_paper_exactly_if_it_does_not_come(self):
        for _, net, one, other in self.pairs("exactly"):
            paper = bar(net, one, other)
            self.assertEqual(paper is None, comes(net, one, other))
            self.assertEqual(bar_holds(net, one, other, paper), paper is not None)

    def test_to_itself_and_back(self):
        for _, net, one, other in self.pairs("back"):
            self.assertTrue(comes(net, one, one))
            self.assertEqual(comes(net, one, other), comes(net, other, one))

    def test_to_a_third_one(self):
        for draw, net, one, other in self.pairs("third"):
            third = drawn_to(draw, net, other)
            self.assertTrue(comes(net, other, third))
            self.assertEqual(comes(net, one, third), comes(net, one, other))

    def test_things_called_otherwise(self):
        for draw, net, one, other in self.pairs("called"):
            things = draw.sample(range(net[0] + 1), net[0] + 1)
            first, second = [(tuple(things[thing] for thing in row), stop) for row, stop in (one, other)]
            self.assertEqual(comes(net, first, second), comes(net, one, other))
            paper = bar(net, one, other)
            if paper is not None and paper[0] == "next":
                paper = ("next", things[paper[1]])
            elif paper is not None and paper[0] == "ratio":
                paper = ("ratio", tuple(things[thing] for thing in paper[1]))
            if paper is not None:
                self.assertTrue(bar_holds(net, first, second, paper))

    def test_behind_a_step_still_the_same_comes(self):
        for draw, net, one, other in self.pairs("step"):
            self.assertEqual(comes(net, drawn_to(draw, net, one, 1), other), comes(net, one, other))
            self.assertEqual(comes(net, one, drawn_to(draw, net, other, 1)), comes(net, one, other))

import itertools

from swapstops.nets import net_error
from tests.calls import CallCase
from tests.drawn import arrows_of
from tests.samples import any_values, integers, no_numbers


def wrong_arrows(n):
    """Items that are no pairs of two unlike ones of n stops, made anew."""
    right = n - 1
    ends = [n, n + 1, -1, 10 ** 399, -10 ** 399, "0", "", None, True, False, (), (0,), [0], {}, {0: 1}]
    found = [(stop, stop) for stop in range(n)]
    found += [(end, right) for end in ends] + [(right, end) for end in ends]
    found += [(end, end) for end in ends]
    found += [(), (0,), (0, 1, 2), (0, 1, 1), (0, 1, None), ((0, 1),), [0, 1], [1, 0], {0: 1}, {0: 1, 1: 0}]
    found += ["01", "0>1", "", None, True, False, 0, 1, -1, n]
    return found


def model_of_items(n, arrows):
    """What is to be told of a tuple of items, by other means than the program's."""
    # The repr tells True from 1, and a list from a tuple.
    rights = [repr(arrow) for arrow in arrows_of(n)]
    places = [rights.index(repr(item)) if repr(item) in rights else None for item in arrows]
    if None in places:
        return ("arrow", places.index(None))
    falls = [spot for spot in range(1, len(places)) if places[spot] <= places[spot - 1]]
    return ("order", falls[0]) if falls else None


class NetErrorCase(CallCase):

    def assert_tells(self, value, told):
        super().assert_tells(told, net_error, value=value)


class NetsTest(NetErrorCase):

    def test_without_arrows(self):
        for n in range(1, 13):
            self.assert_tells((n, ()), None)

    def test_with_all_arrows(self):
        for n in range(1, 13):
            arrows = arrows_of(n)
            self.assertEqual(len(arrows), n * (n - 1))
            self.assert_tells((n, arrows), None)

    def test_with_one_arrow(self):
        for n in range(1, 13):
            for arrow in arrows_of(n):
                self.assert_tells((n, (arrow,)), None)

    def test_with_some_arrows(self):
        for n in range(2, 13):
            arrows = arrows_of(n)
            for step in (2, 3, 5, 7):
                self.assert_tells((n, arrows[::step]), None)
                self.assert_tells((n, arrows[step:]), None)
                self.assert_tells((n, arrows[:-step]), None)
            self.assert_tells((n, tuple((v, w) for v, w in arrows if v > w)), None)
            self.assert_tells((n, tuple((v, w) for v, w in arrows if v < w)), None)

    def test_all_nets_of_three_stops(self):
        for many in range(7):
            for arrows in itertools.combinations(arrows_of(3), many):
                self.assert_tells((3, arrows), None)


class FormTest(NetErrorCase):

    def test_no_pair(self):
        for value in any_values():
            self.assert_tells(value, "form")
        for value in ((3,), (3, (), ()), (3, ((0, 1),), None), ((3, ()),), ((0, 1), (1, 0))):
            self.assert_tells(value, "form")

    def test_a_list_for_the_pair(self):
        self.assert_tells([3, ()], "form")
        self.assert_tells([3, ((0, 1), (1, 2))], "form")
        self.assert_tells({0: 3, 1: ()}, "form")

    def test_no_number_of_stops(self):
        for arrows in ((), ((0, 1),), ((1, 1),)):
            for n in (0, 13, 14, -1, -12, 10 ** 399, -10 ** 399):
                self.assert_tells((n, arrows), "form")
            for n in no_numbers():
                self.assert_tells((n, arrows), "form")

    def test_no_tuple_of_arrows(self):
        for value in any_values():
            if not isinstance(value, tuple):
                self.assert_tells((3, value), "form")
        for arrows in ([], [(0, 1)], [(0, 1), (1, 2)], {(0, 1): True}, "0>1"):
            self.assert_tells((3, arrows), "form")

    def test_form_is_told_ahead_of_arrows(self):
        self.assert_tells((0, ((0, 0),)), "form")
        self.assert_tells((13, ((1, 0), (0, 1))), "form")
        self.assert_tells((True, (None,)), "form")
        self.assert_tells((3, [(0, 0)]), "form")


class ArrowTest(NetErrorCase):

    def test_alone(self):
        for n in range(1, 13):
            for item in wrong_arrows(n):
                self.assert_tells((n, (item,)), ("arrow", 0))

    def test_values_of_all_kinds(self):
        for value in any_values():
            self.assert_tells((3, (value,)), ("arrow", 0))
        for value in no_numbers() + [end for end in integers() if end not in (0, 1, 2)]:
            self.assert_tells((3, ((0, 1), (value, 1))), ("arrow", 1))
            self.assert_tells((3, ((0, 1), (1, value))), ("arrow", 1))
            self.assert_tells((3, ((0, 1), (value, value))), ("arrow", 1))

    def test_no_arrow_with_one_stop(self):
        for item in ((0, 0), (0, 1), (1, 0), (0, -1), (False, 0)):
            self.assert_tells((1, (item,)), ("arrow", 0))

    def test_at_each_place(self):
        arrows = arrows_of(4)
        for spot in range(len(arrows) + 1):
            for item in wrong_arrows(4):
                self.assert_tells((4, arrows[:spot] + (item,) + arrows[spot:]), ("arrow", spot))

    def test_the_first_of_several(self):
        for first, second in itertools.permutations(wrong_arrows(3)[::5], 2):
            self.assert_tells((3, ((0, 1), first, (1, 2), second)), ("arrow", 1))

    def test_ahead_of_it_arrows_out_of_order(self):
        for item in wrong_arrows(3):
            self.assert_tells((3, ((1, 2), (0, 1), item)), ("arrow", 2))
            self.assert_tells((3, ((0, 1), (0, 1), (0, 1), item)), ("arrow", 3))
            self.assert_tells((3, ((2, 1), (2, 0), item, (0, 1))), ("arrow", 2))

    def test_as_many_items_as_can_be(self):
        self.assert_tells((12, ((0, 1),) * 1300 + ((0, 0),)), ("arrow", 1300))


class OrderTest(NetErrorCase):

    def test_doubled_at_each_place(self):
        for n in (2, 3, 5, 12):
            arrows = arrows_of(n)
            for spot in range(1, len(arrows) + 1):
                doubled = arrows[:spot] + arrows[spot - 1:]
                self.assert_tells((n, doubled), ("order", spot))

    def test_exchanged_at_each_place(self):
        for n in (2, 3, 5, 12):
            arrows = arrows_of(n)
            for spot in range(1, len(arrows)):
                ahead, behind = arrows[:spot - 1], arrows[spot + 1:]
                turned = (arrows[spot], arrows[spot - 1])
                self.assert_tells((n, ahead + turned + behind), ("order", spot))

    def test_both_ends_count(self):
        self.assert_tells((12, ((0, 2), (0, 1))), ("order", 1))
        self.assert_tells((12, ((1, 0), (0, 11))), ("order", 1))
        self.assert_tells((12, ((0, 9), (0, 10), (10, 0), (9, 0))), ("order", 3))

    def test_the_first_of_several(self):
        self.assert_tells((3, ((0, 1), (0, 1), (0, 1))), ("order", 1))
        self.assert_tells((3, ((0, 1), (2, 1), (1, 0), (0, 1))), ("order", 2))

    def test_just_the_item_ahead_counts(self):
        self.assert_tells((4, ((0, 1), (3, 2), (0, 2), (0, 3))), ("order", 2))
        self.assert_tells((4, ((0, 1), (1, 2), (0, 1))), ("order", 2))


class ModelTest(NetErrorCase):

    def test_all_short_tuples_of_some_items(self):
        items = [(0, 1), (0, 2), (1, 0), (2, 1), (1, 1), (0, 3), (True, 2), [0, 1], (0, 1, 2), None]
        for many in range(4):
            for arrows in itertools.product(items, repeat=many):
                self.assert_tells((3, arrows), model_of_items(3, arrows))

    def test_pairs_of_small_integers(self):
        for n in range(1, 13):
            for pair in itertools.product(range(-2, 15), repeat=2):
                self.assert_tells((n, (pair,)), model_of_items(n, (pair,)))

    def test_numbers_of_stops(self):
        for n in list(range(-20, 40)) + integers():
            self.assert_tells((n, ()), None if n in range(1, 13) else "form")

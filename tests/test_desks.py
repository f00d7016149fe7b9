import random
import unittest

from swapstops import errors
from swapstops.desks import Desk, desk_behind
from swapstops.errors import (BadLog, BadNet, BadStanding, NothingToRedo, NothingToUndo, NoVersion, SwapError,
                              TooManyEdits, Unfit)
from swapstops.nets import net_error
from swapstops.runs import done
from swapstops.standings import standing_error
from swapstops.waves import fewest_steps
from swapstops.ways import can_come
from tests.calls import CallCase, outcome
from tests.drawn import arrows_of, drawn_nets, drawn_standing, full, net_of, ring, told_nets
from tests.models import standings_behind
from tests.samples import a_desk, any_values, integers, no_numbers, picture, returned_values

TRI, START = (3, ((0, 1), (1, 2), (2, 0))), ((0, 1, 2, 3), 0)


def state(desk):
    """All that can be read of a desk."""
    versions = [desk.at(version) for version in range(desk.version + 1)]
    return picture((desk.net, desk.standing, desk.version, desk.log, tuple(versions)))


def redone(desk):
    """How many edits that were taken back a desk has."""
    other, many = desk.copy(), 0
    while not isinstance(outcome(other.redo), NothingToRedo):
        many += 1
    return many


class Model:
    """A desk told otherwise: all is done anew from the edits that stand."""

    def __init__(self, net, standing):
        self.first, self.stand, self.back = (net, standing), [], []

    def at(self, version):
        (n, arrows), standing = self.first
        for word, given in self.stand[:version]:
            if word == "step":
                standing = [behind for behind in standings_behind((n, arrows), standing) if behind[1] == given][0]
            elif word == "put":
                arrows = tuple(sorted(arrows + (given,)))
            else:
                arrows = tuple(arrow for arrow in arrows if arrow != given)
        return (n, arrows), standing

    def edit(self, word, given):
        self.stand.append((word, given))
        self.back = []

    def state(self):
        versions = [self.at(version) for version in range(len(self.stand) + 1)]
        net, standing = versions[-1]
        return picture((net, standing, len(self.stand), tuple(self.stand), tuple(versions)))


def drawn_edit(draw, desk):
    """A drawn edit that a desk can do, None if the drawn word has none."""
    net, (_, stop) = desk.net, desk.standing
    word = draw.choice(["step", "step", "put", "drop"])
    fit = {
        "step": [w for v, w in net[1] if v == stop],
        "put": [arrow for arrow in arrows_of(net[0]) if arrow not in net[1]],
        "drop": list(net[1]),
    }[word]
    return (word, draw.choice(fit)) if fit else None


def edited(desk, word, given):
    return {"step": desk.step, "put": desk.put, "drop": desk.drop}[word](given)


def drawn_desk(draw, net, many):
    """A desk by which up to so many drawn edits were done."""
    desk = Desk(net, drawn_standing(draw, net[0]))
    for _ in range(many):
        edit = drawn_edit(draw, desk)
        if edit is not None:
            edited(desk, *edit)
    return desk


def wrong_stops(desk):
    """Values that are no stop to which an arrow leads from where control stands, made anew."""
    net, (_, stop) = desk.net, desk.standing
    fit = [w for v, w in net[1] if v == stop]
    return no_numbers() + [value for value in integers() + list(range(-2, 14)) if value not in fit]


class DeskCase(CallCase):

    def assert_refused(self, fields, kind, desk, method, *given, **named):
        """The call raises such an error, twice alike, and changes nothing."""
        before, back, kept = state(desk), redone(desk), picture([given, named])
        for _ in range(2):
            with self.assertRaises(SwapError) as told:
                method(*given, **named)
            self.assertIs(type(told.exception), kind, (given, named))
            self.assertEqual(picture(vars(told.exception)), picture(fields))
        self.assertEqual((state(desk), redone(desk), picture([given, named])), (before, back, kept))


class NewDeskTest(DeskCase):

    def test_what_is_handed_in(self):
        draw = random.Random("new")
        for net in told_nets():
            standing = drawn_standing(draw, net[0])
            for desk in (Desk(net, standing), Desk(net=net, standing=standing), Desk(standing=standing, net=net)):
                told = picture((net, standing, 0, (), ((net, standing),)))
                self.assertEqual(state(desk), told)
                self.assertEqual(redone(desk), 0)

    def test_bad_nets(self):
        values = any_values() + returned_values() + [(13, ()), (0, ()), (True, ()), [3, ()], (3, [(0, 1)])]
        values += [(3, ((0, 1), (1, 1))), (3, ((1, 2), (0, 1))), (3, ((0, 1), (0, 1))), (3, ((0, True),))]
        for value in values:
            error = net_error(value)
            if error is not None:
                for standing in (START, None, ((0, 1), 9)):
                    self.assert_error_with({"error": error}, BadNet, Desk, net=value, standing=standing)

    def test_bad_standings(self):
        values = any_values() + returned_values() + [((0, 1, 2, 3), 3), ((0, 1, 2, 3), True), ((0, 1, 1, 3), 0)]
        values += [((0, 1, 2, 4), 0), ((0, 1, 2), 0), ([0, 1, 2, 3], 0), [(0, 1, 2, 3), 0], ((0, True, 2, 3), 9)]
        for value in values:
            error = standing_error(3, value)
            if error is not None:
                self.assert_error_with({"error": error}, BadStanding, Desk, net=TRI, standing=value)

    def test_properties_can_only_be_read(self):
        desk = a_desk()
        before = state(desk)
        for name in ("net", "standing", "version", "log"):
            with self.assertRaises(AttributeError):
                setattr(desk, name, getattr(desk, name))
            with self.assertRaises(AttributeError):
                setattr(desk, name, None)
        self.assertEqual(state(desk), before)


class EqualTest(unittest.TestCase):

    def assert_equal(self, told, one, other):
        self.assertIs(one == other, told)
        self.assertIs(other == one, told)
        self.assertIs(one != other, not told)
        self.assertIs(other != one, not told)

    def test_equal_nets_and_standings(self):
        draw = random.Random("equal")
        for net in drawn_nets("equal", 2):
            standing = drawn_standing(draw, net[0])
            self.assert_equal(True, Desk(net, standing), Desk(net_of(*net), (tuple(list(standing[0])), standing[1])))

    def test_other_nets_or_standings(self):
        desk = Desk(TRI, START)
        self.assert_equal(True, desk, desk)
        self.assert_equal(False, desk, Desk(full(3), START))
        self.assert_equal(False, desk, Desk((3, TRI[1][:2]), START))
        self.assert_equal(False, desk, Desk(TRI, ((0, 1, 2, 3), 1)))
        self.assert_equal(False, desk, Desk(TRI, ((0, 1, 3, 2), 0)))

    def test_the_log_does_not_count(self):
        desk, other = Desk(TRI, START), Desk(TRI, START)
        other.put((1, 0))
        self.assert_equal(False, desk, other)
        other.drop((1, 0))
        self.assert_equal(True, desk, other)
        desk.step(1)
        self.assert_equal(False, desk, other)
        desk.undo()
        self.assert_equal(True, desk, other)

    def test_nothing_else(self):
        desk = Desk(TRI, START)
        for value in any_values() + returned_values() + [(TRI, START), [TRI, START], TRI, START, Desk, object(), state(desk)]:
            if not isinstance(value, Desk):
                self.assert_equal(False, desk, value)


class StepTest(DeskCase):

    def test_steps(self):
        draw = random.Random("steps")
        for net in told_nets():
            desk = Desk(net, drawn_standing(draw, net[0]))
            for many in range(1, 6):
                behind = standings_behind(net, desk.standing)
                if not behind:
                    break
                standing = draw.choice(behind)
                self.assertEqual(picture(desk.step(standing[1])), picture(many))
                self.assertEqual((desk.net, desk.standing, desk.version), (net, standing, many))
                self.assertEqual(desk.log[-1], ("step", standing[1]))

    def test_by_name(self):
        desk = Desk(TRI, START)
        self.assertEqual(desk.step(stop=1), 1)
        self.assertEqual(desk.log, (("step", 1),))

    def test_unfit(self):
        for net, standing in ((TRI, START), (full(3), START), ((3, ()), START), (ring(12), (tuple(range(13)), 11))):
            desk = Desk(net, standing)
            for value in wrong_stops(desk) + returned_values():
                self.assert_refused({}, Unfit, desk, desk.step, value)

    def test_true_is_not_one(self):
        desk = Desk(TRI, START)
        self.assert_refused({}, Unfit, desk, desk.step, True)
        desk = Desk(TRI, ((0, 1, 2, 3), 2))
        self.assert_refused({}, Unfit, desk, desk.step, False)
        self.assertEqual(desk.step(0), 1)

    def test_by_the_net_that_stands(self):
        desk = Desk(TRI, START)
        self.assert_refused({}, Unfit, desk, desk.step, 2)
        desk.put((0, 2))
        self.assertEqual(desk.step(2), 2)
        self.assertEqual(desk.standing, ((3, 1, 2, 0), 2))
        desk.drop((2, 0))
        self.assert_refused({}, Unfit, desk, desk.step, 0)


class ArrowsTest(DeskCase):

    def test_put_and_drop(self):
        draw = random.Random("arrows")
        for net in drawn_nets("arrows", 3):
            standing = drawn_standing(draw, net[0])
            for arrow in draw.sample(arrows_of(net[0]), min(6, net[0])) if net[0] > 1 else []:
                desk = Desk(net, standing)
                if arrow in net[1]:
                    self.assert_refused({}, Unfit, desk, desk.put, arrow)
                    self.assertEqual(picture(desk.drop(arrow=arrow)), picture(1))
                    told = tuple(other for other in net[1] if other != arrow)
                else:
                    self.assert_refused({}, Unfit, desk, desk.drop, arrow)
                    self.assertEqual(picture(desk.put(arrow=arrow)), picture(1))
                    told = tuple(sorted(net[1] + (arrow,)))
                self.assertEqual(picture(desk.net), picture((net[0], told)))
                self.assertIsNone(net_error(desk.net))
                self.assertEqual((desk.standing, desk.log), (standing, (("drop" if arrow in net[1] else "put", arrow),)))

    def test_all_arrows_put_and_dropped(self):
        desk = Desk((4, ()), ((0, 1, 2, 3, 4), 0))
        arrows = list(arrows_of(4))
        random.Random("all").shuffle(arrows)
        for arrow in arrows:
            desk.put(arrow)
        self.assertEqual(desk.net, full(4))
        for arrow in arrows[::-1]:
            desk.drop(arrow)
        self.assertEqual((desk.net, desk.version), ((4, ()), 24))

    def test_unfit(self):
        for net in (TRI, (3, ()), full(3)):
            desk = Desk(net, START)
            for value in any_values() + returned_values():
                self.assert_refused({}, Unfit, desk, desk.put, value)
                self.assert_refused({}, Unfit, desk, desk.drop, value)
            wrong = [(0, 0), (0, 3), (3, 0), (-1, 0), (0, 1, 2), (0,), [1, 0], [0, 1], (1, 0, None), ((0, 1), (1, 0)), "01"]
            wrong += [(True, 0), (0, True), (False, 2), (2, False), ("1", "0"), (None, 0), {1: 0}, (0, 10 ** 30), ((1, 0),)]
            for value in wrong:
                self.assert_refused({}, Unfit, desk, desk.put, value)
                self.assert_refused({}, Unfit, desk, desk.drop, value)

    def test_of_one_stop(self):
        desk = Desk((1, ()), ((1, 0), 0))
        for value in ((0, 0), (0, 1), 0, None):
            for method in (desk.step, desk.put, desk.drop):
                self.assert_refused({}, Unfit, desk, method, value)
        self.assertEqual((desk.can(((1, 0), 0)), desk.can(((0, 1), 0))), (True, False))


class ManyEditsTest(DeskCase):

    def filled(self):
        desk = Desk(TRI, START)
        for spot in range(40):
            self.assertEqual(desk.step((spot + 1) % 3), spot + 1)
        return desk

    def test_forty_and_one_more(self):
        desk = self.filled()
        self.assert_refused({}, TooManyEdits, desk, desk.step, 2)
        self.assert_refused({}, TooManyEdits, desk, desk.put, (1, 0))
        self.assert_refused({}, TooManyEdits, desk, desk.drop, (0, 1))

    def test_unfit_ahead_of_too_many(self):
        desk = self.filled()
        for value in wrong_stops(desk):
            self.assert_refused({}, Unfit, desk, desk.step, value)
        for value in any_values() + [(0, 1), (0, 0), (True, 0)]:
            self.assert_refused({}, Unfit, desk, desk.put, value)
        for value in any_values() + [(1, 0), (0, 0), (0, True)]:
            self.assert_refused({}, Unfit, desk, desk.drop, value)

    def test_undone_there_is_room_again(self):
        desk = self.filled()
        self.assertEqual(desk.undo(), 39)
        self.assertEqual(desk.put((1, 0)), 40)
        self.assert_refused({}, TooManyEdits, desk, desk.drop, (1, 0))
        self.assert_refused({}, NothingToRedo, desk, desk.redo)

    def test_all_undone_and_redone(self):
        desk = self.filled()
        told = state(desk)
        self.assertEqual([desk.undo() for _ in range(40)], list(range(39, -1, -1)))
        self.assert_refused({}, NothingToUndo, desk, desk.undo)
        self.assertEqual((desk.net, desk.standing, desk.log), (TRI, START, ()))
        self.assertEqual([desk.redo() for _ in range(40)], list(range(1, 41)))
        self.assertEqual(state(desk), told)
        self.assert_refused({}, TooManyEdits, desk, desk.step, 2)

    def test_a_copy_is_full_too(self):
        desk = self.filled().copy()
        self.assert_refused({}, TooManyEdits, desk, desk.step, 2)

    def test_undone_ones_do_not_count(self):
        desk = self.filled()
        for _ in range(100):
            desk.undo()
            desk.step(1)
        self.assertEqual(desk.version, 40)


class UndoTest(DeskCase):

    def test_nothing_to_undo_or_redo(self):
        desk = Desk(TRI, START)
        self.assert_refused({}, NothingToUndo, desk, desk.undo)
        self.assert_refused({}, NothingToRedo, desk, desk.redo)
        desk.step(1)
        self.assert_refused({}, NothingToRedo, desk, desk.redo)
        self.assertEqual(desk.undo(), 0)
        self.assert_refused({}, NothingToUndo, desk, desk.undo)

    def test_an_edit_forgets_what_was_taken_back(self):
        for word, given in (("step", 1), ("put", (1, 0)), ("drop", (2, 0))):
            desk = Desk(TRI, START)
            desk.put((2, 1))
            desk.put((0, 2))
            desk.undo()
            desk.undo()
            self.assertEqual(redone(desk), 2)
            self.assertEqual(edited(desk, word, given), 1)
            self.assert_refused({}, NothingToRedo, desk, desk.redo)
            self.assertEqual(desk.log, ((word, given),))

    def test_the_very_edit_again_forgets_too(self):
        desk = Desk(TRI, START)
        desk.step(1)
        desk.step(2)
        desk.undo()
        desk.undo()
        desk.step(1)
        self.assert_refused({}, NothingToRedo, desk, desk.redo)

    def test_an_edit_that_raises_forgets_nothing(self):
        desk = Desk(TRI, START)
        desk.step(1)
        desk.step(2)
        desk.undo()
        for method, value in ((desk.step, 1), (desk.put, (0, 1)), (desk.drop, (1, 0)), (desk.step, None)):
            self.assert_refused({}, Unfit, desk, method, value)
        self.assert_refused({"error": "form"}, BadStanding, desk, desk.can, None)
        self.assertEqual((desk.redo(), desk.log), (2, (("step", 1), ("step", 2))))

    def test_drawn_edits_undone_and_redone(self):
        draw = random.Random("undone")
        for net in drawn_nets("undone", 2):
            standing = drawn_standing(draw, net[0])
            desk, model = Desk(net, standing), Model(net, standing)
            for _ in range(60):
                word = draw.choice(["edit", "edit", "edit", "undo", "undo", "redo"])
                edit = drawn_edit(draw, desk)
                if word == "undo":
                    if not model.stand:
                        self.assert_refused({}, NothingToUndo, desk, desk.undo)
                        continue
                    model.back.append(model.stand.pop())
                    self.assertEqual(picture(desk.undo()), picture(len(model.stand)))
                elif word == "redo":
                    if not model.back:
                        self.assert_refused({}, NothingToRedo, desk, desk.redo)
                        continue
                    model.stand.append(model.back.pop())
                    self.assertEqual(picture(desk.redo()), picture(len(model.stand)))
                elif edit is not None and len(model.stand) < 40:
                    model.edit(*edit)
                    self.assertEqual(picture(edited(desk, *edit)), picture(len(model.stand)))
                self.assertEqual(redone(desk), len(model.back))
            self.assertEqual(state(desk), model.state())


class AtTest(DeskCase):

    def test_all_versions(self):
        desk = Desk(TRI, START)
        desk.step(1)
        desk.put((1, 0))
        desk.step(0)
        told = [(TRI, START), (TRI, ((3, 1, 2, 0), 1)), ((3, ((0, 1), (1, 0), (1, 2), (2, 0))), ((3, 1, 2, 0), 1))]
        told.append((told[2][0], ((3, 0, 2, 1), 0)))
        for version in range(4):
            self.assertEqual(picture(desk.at(version)), picture(told[version]))
            self.assertEqual(picture(desk.at(version=version)), picture(told[version]))
        self.assert_refused({"given": 4}, NoVersion, desk, desk.at, 4)

    def test_just_of_those_that_stand(self):
        desk = Desk(TRI, START)
        desk.step(1)
        desk.step(2)
        desk.undo()
        self.assertEqual(desk.at(1), (TRI, ((3, 1, 2, 0), 1)))
        self.assert_refused({"given": 2}, NoVersion, desk, desk.at, 2)
        desk.put((1, 0))
        self.assertEqual(desk.at(2), (net_of(3, TRI[1] + ((1, 0),)), ((3, 1, 2, 0), 1)))

    def test_values_of_all_kinds(self):
        for desk in (Desk(TRI, START), a_desk()):
            for value in no_numbers() + returned_values() + [-1, 3, 4, 40, 41, 10 ** 30, -10 ** 30]:
                self.assert_refused({"given": value}, NoVersion, desk, desk.at, value)

    def test_the_very_value_is_kept(self):
        desk = a_desk()
        for value in no_numbers():
            with self.assertRaises(NoVersion) as told:
                desk.at(value)
            self.assertIs(told.exception.given, value)

    def test_true_is_not_one(self):
        desk = a_desk()
        self.assertEqual(desk.version, 2)
        self.assert_refused({"given": True}, NoVersion, desk, desk.at, True)
        self.assert_refused({"given": False}, NoVersion, desk, desk.at, False)


class CanTest(DeskCase):

    def test_by_the_net_and_standing_that_stand(self):
        draw = random.Random("can")
        for net in drawn_nets("can", 4):
            desk = drawn_desk(draw, net, draw.randint(0, 12))
            for standing in (drawn_standing(draw, net[0]), desk.standing, desk.at(0)[1]):
                told = can_come(desk.net, desk.standing, standing)
                before = state(desk)
                self.assertIs(desk.can(standing), told)
                self.assertIs(desk.can(standing=standing), told)
                self.assertEqual(state(desk), before)

    def test_by_going_through(self):
        draw = random.Random("through")
        for _ in range(30):
            n = draw.randint(2, 4)
            desk = drawn_desk(draw, (n, ()), 12)
            for _ in range(4):
                standing = drawn_standing(draw, n)
                self.assertEqual(desk.can(standing), fewest_steps(desk.net, desk.standing, standing) is not None)

    def test_bad_standings(self):
        desk = a_desk()
        values = any_values() + returned_values() + [((0, 1, 2, 3), 3), ((0, 1, 2, 3), True), ((0, 1, 1, 3), 0)]
        values += [((0, 1, 2, 4), 0), ((0, 1, 2), 0), ([0, 1, 2, 3], 0), [(0, 1, 2, 3), 0], ((0, True, 2, 3), 9)]
        for value in values:
            error = standing_error(3, value)
            if error is not None:
                self.assert_refused({"error": error}, BadStanding, desk, desk.can, value)


class CopyTest(DeskCase):

    def test_the_same(self):
        draw = random.Random("copies")
        for net in drawn_nets("copies", 2):
            desk = drawn_desk(draw, net, 15)
            for _ in range(draw.randint(0, desk.version)):
                desk.undo()
            other = desk.copy()
            self.assertIs(type(other), Desk)
            self.assertIsNot(other, desk)
            self.assertEqual((state(other), redone(other), other == desk), (state(desk), redone(desk), True))
            while redone(desk):
                self.assertEqual(desk.redo(), other.redo())
                self.assertEqual(state(desk), state(other))

    def test_neither_changes_with_the_other(self):
        def changes(desk):
            yield desk.redo()
            yield desk.undo()
            yield desk.undo()
            yield desk.put((2, 1))
            yield desk.step(2)
            yield desk.undo()

        for first in (0, 1):
            desks = [a_desk(), None]
            desks[1] = desks[0].copy()
            one, other = desks[first], desks[1 - first]
            before = (state(other), redone(other))
            for _ in changes(one):
                self.assertEqual((state(other), redone(other)), before)
            self.assertNotEqual(one, other)
            self.assertEqual(list(changes(other)), [3, 2, 1, 2, 3, 2])
            self.assertEqual(one, other)

    def test_a_copy_of_a_copy(self):
        desk = a_desk()
        other = desk.copy().copy()
        desk.step(0)
        self.assertEqual(state(other), state(a_desk()))
        self.assertEqual(other.redo(), 3)


class DeskBehindTest(DeskCase):

    def assert_bad_log(self, place, log, net=TRI, standing=START):
        self.assert_error_with({"place": place}, BadLog, desk_behind, net=net, standing=standing, log=log)

    def test_no_edits(self):
        for net in told_nets():
            standing = (tuple(range(net[0] + 1)), net[0] - 1)
            self.assertEqual(state(desk_behind(net, standing, ())), state(Desk(net, standing)))

    def test_logs_of_desks(self):
        draw = random.Random("logs")
        for net in drawn_nets("logs", 3):
            desk = drawn_desk(draw, net, 30)
            first = desk.at(0)
            other = self.outcome_all_ways(desk_behind, {"net": first[0], "standing": first[1], "log": desk.log})
            self.assertEqual((state(other), redone(other)), (state(desk), 0))
            self.assertEqual(other, desk)

    def test_bad_nets_and_standings_ahead_of_the_log(self):
        for log in ((), None, [("step", 1)], (("step", 7),)):
            for value in any_values() + [(3, ((1, 2), (0, 1))), (0, ())]:
                told = net_error(value)
                for standing in (START, None):
                    self.assert_error_with({"error": told}, BadNet, desk_behind, net=value, standing=standing, log=log)
            for value in any_values() + [((0, 1, 1, 3), 0), ((0, 1, 2, 3), 3)]:
                told = standing_error(3, value)
                self.assert_error_with({"error": told}, BadStanding, desk_behind, net=TRI, standing=value, log=log)

    def test_no_tuple(self):
        for value in any_values() + [[("step", 1)], [], {}, {("step", 1): 1}, "step", None, 0]:
            if not isinstance(value, tuple):
                self.assert_bad_log(0, value)

    def test_a_bad_item_at_any_place(self):
        right = (("step", 1), ("put", (1, 0)), ("step", 0), ("drop", (1, 2)), ("put", (2, 1)), ("step", 1), ("step", 0))
        self.assertEqual(desk_behind(TRI, START, right).version, 7)
        wrong = [("step", 9), ("put", (0, 1)), ("drop", (0, 2)), ("step", True), ("put", (True, 0)), ("drop", None), ()]
        wrong += [("step",), ("step", 1, 1), ["step", 1], ("Step", 1), ("undo", None), (1, "step"), "step", None, ("step", [1])]
        wrong += [("copy", None), ("redo", 0), (None, 1), (("step",), 1), ("step", None), ("put", [2, 0]), ("at", 0)]
        for place in range(len(right) + 1):
            for item in wrong + any_values()[::7]:
                self.assert_bad_log(place, right[:place] + (item,) + right[place:])
                self.assert_bad_log(place, right[:place] + (item,))

    def test_the_first_of_several(self):
        for first in (None, ("step", 0), ("put", (0, 1)), ("drop", 7), ["step", 1]):
            for second in (None, ("step", 9), ()):
                self.assert_bad_log(1, (("step", 1), first, second))
                self.assert_bad_log(0, (first, second, ("step", 1)))

    def test_values_of_all_kinds(self):
        for value in any_values() + returned_values():
            if value != ("step", 1):
                self.assert_bad_log(0, (value,))
            self.assert_bad_log(0, ((value, 1), ("step", 1)))
            self.assert_bad_log(0, ((value, (1, 0)), ("step", 1)))
            for word in ("put", "drop"):
                self.assert_bad_log(1, (("step", 1), (word, value), ("step", 2)))

    def test_forty_edits_and_one_more(self):
        log = tuple(("step", (spot + 1) % 3) for spot in range(42))
        self.assertEqual(desk_behind(TRI, START, log[:40]).version, 40)
        self.assert_bad_log(40, log[:41])
        self.assert_bad_log(40, log)
        self.assert_bad_log(40, log[:40] + (None,))
        self.assert_bad_log(39, log[:39] + (None,) + log[40:])

    def test_by_the_net_and_standing_behind_each_item(self):
        self.assert_bad_log(1, (("step", 1), ("step", 0)))
        self.assert_bad_log(1, (("put", (1, 0)), ("put", (1, 0))))
        self.assert_bad_log(1, (("drop", (0, 1)), ("step", 1)))
        self.assert_bad_log(2, (("drop", (0, 1)), ("put", (0, 1)), ("put", (0, 1))))
        self.assertEqual(desk_behind(TRI, START, (("drop", (0, 1)), ("put", (0, 1)), ("step", 1))).version, 3)


class HandedInTest(DeskCase):

    def test_what_is_handed_in_is_not_changed(self):
        for make in (any_values, returned_values):
            values = make()
            before = picture(values)
            desk = a_desk()
            for value in values:
                for call in (desk.step, desk.put, desk.drop, desk.at, desk.can):
                    outcome(call, value)
                outcome(Desk, value, value)
                outcome(desk_behind, TRI, START, value)
            self.assertEqual(picture(values), before)

    def test_what_was_read_stays(self):
        desk = a_desk()
        read = [desk.net, desk.standing, desk.version, desk.log, desk.at(0), desk.at(desk.version)]
        before = picture(read)
        desk.undo()
        desk.put((2, 1))
        desk.drop((0, 1))
        self.assertEqual(picture(read), before)

    def test_errors_are_of_the_package(self):
        desk = Desk(TRI, START)
        for call in (desk.undo, desk.redo):
            with self.assertRaises(SwapError):
                call()
        self.assertTrue(issubclass(errors.BadLog, SwapError))


class PromisesTest(DeskCase):
    """What holds by [K5]."""

    def drawn_desks(self, seed):
        draw = random.Random(seed)
        for net in drawn_nets(seed, 3):
            desk = drawn_desk(draw, net, draw.randint(0, 40))
            for _ in range(draw.randint(0, 3)):
                outcome(desk.undo)
            yield desk

    def test_at_its_version(self):
        for desk in self.drawn_desks("version"):
            self.assertEqual(picture(desk.at(desk.version)), picture((desk.net, desk.standing)))
            self.assertEqual(len(desk.log), desk.version)

    def test_desk_behind_goes_back_through_the_same(self):
        for desk in self.drawn_desks("same"):
            net, standing = desk.at(0)
            other = desk_behind(net, standing, desk.log)
            self.assertEqual((other == desk, other.version, other.log), (True, desk.version, desk.log))
            while desk.version:
                self.assertEqual(desk.undo(), other.undo())
                self.assertEqual((desk.net, desk.standing), (other.net, other.standing))
            self.assert_refused({}, NothingToUndo, other, other.undo)

    def test_steps_lead_to_what_comes(self):
        for desk in self.drawn_desks("comes"):
            for version, (word, given) in enumerate(desk.log):
                net, one = desk.at(version)
                _, other = desk.at(version + 1)
                if word == "step":
                    self.assertEqual(other, done(one, (one[1], given)))
                    self.assertTrue(can_come(net, one, other))
                else:
                    self.assertEqual(other, one)

"""Desks: a net and a standing of its stops, which edits change."""

from swapstops.bounds import MAX_EDITS
from swapstops.checks import is_integer_between, is_pair
from swapstops.errors import BadLog, BadNet, BadStanding, NoVersion
from swapstops.errors import NothingToRedo, NothingToUndo, TooManyEdits, Unfit
from swapstops.nets import is_arrow, is_stop, net_error, with_arrow, without_arrow
from swapstops.runs import done
from swapstops.standings import standing_error
from swapstops.ways import can_come


class Desk:
    """A net and a standing that stand, and the edits by which they came about."""

    def __init__(self, net, standing):
        error = net_error(net)
        if error is not None:
            raise BadNet(error)
        error = standing_error(net[0], standing)
        if error is not None:
            raise BadStanding(error)
        # All edits, and the nets and standings ahead of and behind each of them:
        # behind those that stand follow those that were taken back.
        self._edits = ()
        self._states = ((net, standing),)
        self._version = 0

    @property
    def net(self):
        """The net that stands."""
        return self._states[self._version][0]

    @property
    def standing(self):
        """The standing that stands."""
        return self._states[self._version][1]

    @property
    def version(self):
        """How many edits stand."""
        return self._version

    @property
    def log(self):
        """The edits that stand, in order."""
        return self._edits[:self._version]

    def __eq__(self, other):
        if not isinstance(other, Desk):
            return False
        return self._states[self._version] == other._states[other._version]

    def step(self, stop):
        """Do a step to stop; return the new version."""
        net, standing = self.net, self.standing
        if not is_stop(net[0], stop) or (standing[1], stop) not in net[1]:
            raise Unfit()
        return self._edited(("step", stop), net, done(standing, (standing[1], stop)))

    def put(self, arrow):
        """Add arrow to the net; return the new version."""
        net = self.net
        if not is_arrow(net[0], arrow) or arrow in net[1]:
            raise Unfit()
        return self._edited(("put", arrow), with_arrow(net, arrow), self.standing)

    def drop(self, arrow):
        """Take arrow away from the net; return the new version."""
        net = self.net
        if not is_arrow(net[0], arrow) or arrow not in net[1]:
            raise Unfit()
        return self._edited(("drop", arrow), without_arrow(net, arrow), self.standing)

    def _edited(self, edit, net, standing):
        """Let edit stand, and net and standing behind it; return the new version."""
        if self._version >= MAX_EDITS:
            raise TooManyEdits()
        # What was taken back is behind what stands: so it is forgotten.
        self._edits = self._edits[:self._version] + (edit,)
        self._states = self._states[:self._version + 1] + ((net, standing),)
        self._version += 1
        return self._version

    def can(self, standing):
        """Return whether the standing that stands comes to this one by the net."""
        error = standing_error(self.net[0], standing)
        if error is not None:
            raise BadStanding(error)
        return can_come(self.net, self.standing, standing)

    def undo(self):
        """Take back the last edit that stands; return the version then."""
        if self._version == 0:
            raise NothingToUndo()
        self._version -= 1
        return self._version

    def redo(self):
        """Do again the edit that was taken back last; return the version then."""
        if self._version == len(self._edits):
            raise NothingToRedo()
        self._version += 1
        return self._version

    def at(self, version):
        """Return the net and the standing when so many edits stood, of those that stand now."""
        if not is_integer_between(version, 0, self._version):
            raise NoVersion(version)
        return self._states[version]

    def copy(self):
        """Return a desk with the same net, standing, edits that stand and that were taken back."""
        net, standing = self._states[0]
        other = Desk(net, standing)
        other._edits = self._edits
        other._states = self._states
        other._version = self._version
        return other


def desk_behind(net, standing, log):
    """Return a desk of net and standing by which the edits of log were done, one behind another."""
    desk = Desk(net, standing)
    if not isinstance(log, tuple):
        raise BadLog(0)
    for place, item in enumerate(log):
        if not is_done(desk, item):
            raise BadLog(place)
    return desk


def is_done(desk, item):
    """Do item if it is an edit that can be done by desk; return whether it is."""
    if not is_pair(item):
        return False
    word, given = item
    try:
        if word == "step":
            desk.step(given)
        elif word == "put":
            desk.put(given)
        elif word == "drop":
            desk.drop(given)
        else:
            return False
    except (Unfit, TooManyEdits):
        return False
    return True

"""Rooms: named regions that several users change, with undo and trials."""

from boxregions.checks import is_short_word
from boxregions.errors import Blocked, InvalidBox, InvalidName, NoName, NothingLeft, Outside, TooMany
from boxregions.regions import Region, check_region, is_box


class Trial:
    """Gives a room for one with block at a time, behind which its regions and its log are as before."""

    def __init__(self, room):
        self._room = room
        self._regions = {}
        self._calls = []

    def __enter__(self):
        room = self._room
        self._regions = dict(room._regions)
        self._calls = list(room._calls)
        return room

    def __exit__(self, kind, value, trace):
        room = self._room
        room._regions = self._regions
        room._calls = self._calls


class Room:
    """Regions that are kept under names, and the calls that have changed them."""

    MOST = 20

    def __init__(self):
        self._regions = {}
        # A call is a tuple (user, word, name, before): before is the region that the name had, None without one.
        self._calls = []

    @staticmethod
    def is_name(thing):
        """Returns whether a value is a text of one to eight small letters, as names and users are."""
        return is_short_word(thing)

    def put(self, user, name, region):
        """Keeps a region under a name, in place of an earlier one."""
        self._check_put(user, name, region)
        self._keep(user, "put", name, region)

    def join(self, user, name, region):
        """Adds a region to the one under a name."""
        self._check_change(user, name, region)
        self._keep(user, "join", name, self._regions[name] | region)

    def cut(self, user, name, region):
        """Takes a region away from the one under a name."""
        self._check_change(user, name, region)
        self._keep(user, "cut", name, self._regions[name] - region)

    def drop(self, user, name):
        """Removes a name."""
        self._check_names(user, name)
        self._check_kept(name)
        self._calls.append((user, "drop", name, self._regions[name]))
        del self._regions[name]

    def undo(self, user):
        """Undoes the last call of a user that is not undone, and returns the name that it was about."""
        self._check_name(user)
        own = [at for at, call in enumerate(self._calls) if call[0] == user]
        if not own:
            raise NothingLeft()
        _, _, name, before = self._calls[own[-1]]
        # Later calls are of other users: this is the last one of its user.
        if any([later[2] == name for later in self._calls[own[-1] + 1:]]):
            raise Blocked(name)
        del self._calls[own[-1]]
        if before is None:
            del self._regions[name]
        else:
            self._regions[name] = before
        return name

    def region(self, name):
        """Returns the region under a name."""
        self._check_kept(name)
        return self._regions[name]

    def names(self):
        """Yields the names in ascending order."""
        for name in sorted(list(self._regions)):
            yield name

    def log(self):
        """Returns the calls that are not undone as tuples (user, word, name)."""
        return [(user, word, name) for user, word, name, _ in self._calls]

    def __len__(self):
        return len(self._regions)

    @property
    def whole(self):
        """The union of all regions."""
        union = Region.empty()
        for region in self._regions.values():
            union = union | region
        return union

    def trial(self):
        """Returns an object whose with block gives the room and leaves it as it was."""
        return Trial(self)

    def tried(self, action):
        """Returns what an action returns that is called with the room, and leaves the room as it was."""
        with self.trial() as room:
            return action(room)

    def copy(self):
        """Returns an equal room with the same log, independent of this one."""
        room = Room()
        room._take(self)
        return room

    def __eq__(self, other):
        return isinstance(other, Room) and self._regions == other._regions

    def _take(self, other):
        """Takes over the regions and the calls of another room."""
        self._regions = dict(other._regions)
        self._calls = list(other._calls)

    def _keep(self, user, word, name, region):
        """Keeps a region under a name for a call of a user."""
        self._calls.append((user, word, name, self._regions.get(name)))
        self._regions[name] = region

    def _check_name(self, thing):
        """Raises InvalidName for a value that is not a name."""
        if not is_short_word(thing):
            raise InvalidName(thing)

    def _check_names(self, user, name):
        """Raises InvalidName with the first one of a user and a name that is not one."""
        self._check_name(user)
        self._check_name(name)

    def _check_kept(self, name):
        """Raises NoName for a value that is not a name that is kept."""
        # What is not a name may be no key of a dict at all.
        if not is_short_word(name) or name not in self._regions:
            raise NoName(name)

    def _check_put(self, user, name, region):
        """Raises what put raises."""
        self._check_names(user, name)
        check_region(region)
        if name not in self._regions and len(self._regions) >= Room.MOST:
            raise TooMany(Room.MOST)

    def _check_change(self, user, name, region):
        """Raises what join and cut raise."""
        self._check_names(user, name)
        check_region(region)
        self._check_kept(name)


class FixedRoom(Room):
    """A room all of whose regions are inside a box."""

    def __init__(self, frame):
        if not is_box(frame):
            raise InvalidBox(frame)
        Room.__init__(self)
        self._frame = frame

    @property
    def frame(self):
        """The box."""
        return self._frame

    def put(self, user, name, region):
        """Keeps a region inside the box under a name, in place of an earlier one."""
        self._check_put(user, name, region)
        self._check_inside(name, region)
        self._keep(user, "put", name, region)

    def join(self, user, name, region):
        """Adds a region inside the box to the one under a name."""
        self._check_change(user, name, region)
        self._check_inside(name, region)
        self._keep(user, "join", name, self._regions[name] | region)

    def copy(self):
        """Returns an equal room with the same box and the same log, independent of this one."""
        room = FixedRoom(self._frame)
        room._take(self)
        return room

    def _check_inside(self, name, region):
        """Raises Outside with the name for a region with a square outside of the box."""
        if not region.within(Region.of(self._frame)):
            raise Outside(name)

"""Stage 11: rooms in long sequences of calls by several users, beside a plain model."""

import random
import unittest

from boxregions.errors import Blocked, InvalidName, InvalidRegion, NoName, NothingLeft, Outside, TooMany
from boxregions.regions import Region
from boxregions.rooms import FixedRoom, Room
from tests import slow
from tests.test_rooms import NAMES, NO_NAMES, RoomCase


class Model:
    """What a room should do, told by its calls that are not undone: its regions are found by doing them again."""

    def __init__(self, box):
        self.box = box
        self.calls = []

    def regions(self):
        found = {}
        for _, word, name, region in self.calls:
            if word == "drop":
                del found[name]
            else:
                found[name] = {"put": region, "join": found.get(name, region) | region, "cut": found.get(name, region) - region}[word]
        return found

    def error(self, user, word, name, region):
        """Returns the class and the value of the exception that a call raises, or None."""
        for thing in (user, name):
            if thing in NO_NAMES:
                return InvalidName, thing
        if word != "drop" and not isinstance(region, Region):
            return InvalidRegion, region
        kept = self.regions()
        if word != "put" and name not in kept:
            return NoName, name
        if word == "put" and name not in kept and len(kept) >= 20:
            return TooMany, 20
        if self.box and word in ("put", "join") and not region.within(Region.of(self.box)):
            return Outside, name
        return None

    def undo_error(self, user):
        if user in NO_NAMES:
            return InvalidName, user
        own = [at for at, call in enumerate(self.calls) if call[0] == user]
        if not own:
            return NothingLeft, None
        name = self.calls[own[-1]][2]
        return (Blocked, name) if any(call[2] == name for call in self.calls[own[-1] + 1:]) else None

    def undo(self, user):
        at = max(at for at, call in enumerate(self.calls) if call[0] == user)
        return self.calls.pop(at)[2]


class TestLongSequences(RoomCase):

    def compare(self, room, model):
        kept = model.regions()
        self.assertEqual(list(room.names()), sorted(kept))
        self.assertEqual(len(room), len(kept))
        for name, region in kept.items():
            self.assertEqual(room.region(name), region)
        self.assertEqual(room.log(), [call[:3] for call in model.calls])

    def step(self, room, model, chance, regions, names):
        """Makes one call; returns the name of the class of the exception that was right, or of the call."""
        user = chance.choice(["ann", "bob", "cy"] * 8 + ["zed", "", "A"])
        if chance.random() < 0.35:
            wrong = model.undo_error(user)
            if wrong:
                self.raises(room, lambda: room.undo(user), *wrong)
                return wrong[0].__name__
            self.assertEqual(room.undo(user), model.undo(user))
            return "undo"
        word = chance.choice(["put", "put", "put", "join", "join", "cut", "cut", "drop"])
        name = chance.choice(names * 4 + ["A"])
        region = chance.choice(regions * 3 + [None])
        arguments = (user, name) if word == "drop" else (user, name, region)
        wrong = model.error(user, word, name, region)
        if wrong:
            self.raises(room, lambda: getattr(room, word)(*arguments), *wrong)
            return wrong[0].__name__
        self.assertIsNone(getattr(room, word)(*arguments))
        model.calls.append((user, word, name, region))
        return word

    def walk(self, room, model, chance, regions, names, many, depth=2):
        seen = set()
        for _ in range(many):
            if depth and chance.random() < 0.03:
                before = list(model.calls)
                with room.trial():
                    seen |= self.walk(room, model, chance, regions, names, 8, depth - 1)
                model.calls = before
                self.compare(room, model)
            seen.add(self.step(room, model, chance, regions, names))
            self.compare(room, model)
        return seen

    def test_rooms(self):
        for seed in range(12):
            chance = random.Random(seed)
            regions = [slow.region_of_pair(*pair) for pair in slow.larger_pairs()[seed:seed + 8]]
            box = (0, 0, 11, 11) if seed % 3 == 0 else None
            room = FixedRoom(box) if box else Room()
            seen = self.walk(room, Model(box), chance, regions, NAMES[:4], 200)
            self.assertLessEqual({"put", "join", "cut", "drop", "undo", "InvalidName", "InvalidRegion", "NoName", "Blocked"}, seen)

    def test_great_regions_and_many_names(self):
        chance = random.Random(99)
        regions = [slow.stretched(*pair) for pair in slow.larger_pairs()[4:12]]
        model = Model(None)
        room = Room()
        for at, name in enumerate(NAMES[:19]):
            room.put(["ann", "bob"][at % 2], name, regions[0])
            model.calls.append((["ann", "bob"][at % 2], "put", name, regions[0]))
        seen = self.walk(room, model, chance, regions, NAMES, 150)
        self.assertIn("TooMany", seen)


if __name__ == "__main__":
    unittest.main()

"""Stage 11: the methods of rooms, undo, trials, copies, fixed rooms."""

import unittest

from boxregions.errors import Blocked, InvalidBox, InvalidName, InvalidRegion, NoName, NothingLeft, Outside, TooMany
from boxregions.regions import Region
from boxregions.rooms import FixedRoom, Room
from tests.grids import BIG, NO_BOXES, NO_REGIONS

NO_NAMES = [
    None, 0, True, 1.0, b"a", ["a"], ("a",), {"a"}, {"a": 1}, object(), Region.empty(), [], {},
    "", "A", "a1", "1", "abcdefghi", "aB", "a ", " a", "a\n", "\n", "a-b", "a_b", "_", "\u00e4", "\u0430", "\uff41", "\u00aa",
]
NAMES = [first + second for first in "abcdef" for second in "stuv"]
ONE = Region.of((0, 0, 2, 2))
TWO = Region.of((1, 1, 4, 3))
ALMOST = ~Region.of((0, 0, 1, 1))


def state(room):
    """Returns all that a room tells."""
    return [(name, room.region(name)) for name in room.names()], room.log(), len(room), room.whole


class RoomCase(unittest.TestCase):

    def raises(self, room, call, error, value):
        """Checks that a call raises an exception with a value and changes nothing."""
        before = state(room)
        with self.assertRaises(error) as caught:
            call()
        self.assertIs(type(caught.exception), error)
        if error is not NothingLeft:
            self.assertEqual(caught.exception.value, value)
        self.assertEqual(state(room), before)
        return getattr(caught.exception, "value", None)


class TestMethods(RoomCase):

    def test_example(self):
        room = Room()
        done = [room.put("ann", "a", Region.of((0, 0, 2, 2))), room.join("bob", "a", Region.of((2, 0, 3, 1)))]
        self.assertEqual(done, [None, None])
        self.assertEqual([room.undo("bob"), room.undo("ann"), len(room), room.tried(len)], ["a", "a", 0, 0])

    def test_a_new_room(self):
        room = Room()
        self.assertEqual([list(room.names()), room.log(), len(room), room.whole], [[], [], 0, Region.empty()])
        self.assertEqual([Room.MOST, room.MOST, FixedRoom.MOST], [20, 20, 20])

    def test_is_name(self):
        for thing in ("a", "z", "abcdefgh", "zzzzzzzz", "put"):
            self.assertIs(Room.is_name(thing), True)
            self.assertIs(Room().is_name(thing), True)
            self.assertIs(FixedRoom.is_name(thing), True)
        for thing in NO_NAMES:
            self.assertIs(Room.is_name(thing), False)

    def test_what_the_calls_do(self):
        room = Room()
        self.assertIsNone(room.put("ann", "b", ONE))
        self.assertIsNone(room.put("bob", "a", TWO))
        self.assertEqual(list(room.names()), ["a", "b"])
        self.assertEqual([room.region("a"), room.region("b"), room.whole, len(room)], [TWO, ONE, ONE | TWO, 2])
        self.assertIsNone(room.join("ann", "a", ONE))
        self.assertEqual(room.region("a"), ONE | TWO)
        self.assertIsNone(room.cut("bob", "a", Region.of((0, 0, 1, 9))))
        self.assertEqual(room.region("a"), (ONE | TWO) - Region.of((0, 0, 1, 9)))
        self.assertIsNone(room.put("ann", "a", ALMOST))
        self.assertEqual([room.region("a"), room.whole], [ALMOST, Region.everything()])
        self.assertIsNone(room.drop("cy", "b"))
        self.assertEqual([list(room.names()), room.whole, len(room)], [["a"], ALMOST, 1])
        self.assertEqual(room.log(), [
            ("ann", "put", "b"), ("bob", "put", "a"), ("ann", "join", "a"), ("bob", "cut", "a"), ("ann", "put", "a"), ("cy", "drop", "b"),
        ])

    def test_regions_that_do_not_change_are_logged(self):
        room = Room()
        room.put("ann", "a", Region.empty())
        room.cut("ann", "a", ONE)
        room.join("ann", "a", Region.empty())
        room.put("ann", "a", Region.empty())
        self.assertEqual([len(room.log()), len(room), room.region("a")], [4, 1, Region.empty()])
        self.assertEqual([room.undo("ann"), room.log()[-1], len(room)], ["a", ("ann", "join", "a"), 1])

    def test_returned_lists_are_new(self):
        room = Room()
        room.put("ann", "a", ONE)
        room.log().clear()
        room.region("a").slabs.clear()
        room.whole.slabs.clear()
        self.assertEqual([room.log(), room.region("a"), room.whole], [[("ann", "put", "a")], ONE, ONE])

    def test_names_while_they_change(self):
        room = Room()
        for name in ("b", "a", "c"):
            room.put("ann", name, ONE)
        for name in room.names():
            room.drop("ann", name)
        self.assertEqual([len(room), list(room.names())], [0, []])

    def test_twenty_names(self):
        room = Room()
        for name in NAMES[:20]:
            room.put("ann", name, ONE)
        self.raises(room, lambda: room.put("ann", NAMES[20], ONE), TooMany, 20)
        room.put("bob", NAMES[3], TWO)
        room.join("bob", NAMES[4], TWO)
        self.assertEqual(len(room), 20)
        room.drop("cy", NAMES[0])
        room.put("ann", NAMES[20], TWO)
        self.raises(room, lambda: room.put("ann", NAMES[0], ONE), TooMany, 20)
        # A name comes back as a 21st.
        self.assertEqual([room.undo("cy"), len(room)], [NAMES[0], 21])
        self.raises(room, lambda: room.put("ann", NAMES[21], ONE), TooMany, 20)
        room.put("ann", NAMES[0], TWO)
        self.assertEqual(list(room.names()), NAMES[:21])
        room.drop("ann", NAMES[0])
        self.raises(room, lambda: room.put("ann", NAMES[21], ONE), TooMany, 20)
        room.drop("ann", NAMES[1])
        self.assertIsNone(room.put("ann", NAMES[21], ONE))
        self.assertEqual(len(room), 20)


class TestErrors(RoomCase):

    def calls(self, room):
        return [
            lambda user, name, region: room.put(user, name, region), lambda user, name, region: room.join(user, name, region),
            lambda user, name, region: room.cut(user, name, region),
        ]

    def rooms(self):
        for room in (Room(), FixedRoom((0, 0, 5, 5))):
            room.put("ann", "a", ONE)
            yield room

    def test_users_and_names(self):
        for room in self.rooms():
            for bad in NO_NAMES:
                for call in self.calls(room):
                    for user, name, region in [
                        (bad, "a", ONE), (bad, "A", None), (bad, None, ~ONE), ("ann", bad, ONE), ("zed", bad, None), (bad, "lost", 5),
                    ]:
                        self.assertIs(self.raises(room, lambda: call(user, name, region), InvalidName, bad), bad)
                for user, name in [(bad, "a"), (bad, ""), (bad, "lost"), ("ann", bad)]:
                    self.assertIs(self.raises(room, lambda: room.drop(user, name), InvalidName, bad), bad)
                self.assertIs(self.raises(room, lambda: room.undo(bad), InvalidName, bad), bad)
                self.assertIs(self.raises(room, lambda: room.region(bad), NoName, bad), bad)

    def test_regions_and_names_that_are_not_kept(self):
        for room in self.rooms():
            for bad in NO_REGIONS:
                for call in self.calls(room):
                    for name in ("a", "lost"):
                        self.assertIs(self.raises(room, lambda: call("ann", name, bad), InvalidRegion, bad), bad)
            for call in self.calls(room)[1:]:
                for region in (ONE, ~ONE):
                    self.raises(room, lambda: call("ann", "lost", region), NoName, "lost")
            self.raises(room, lambda: room.drop("ann", "lost"), NoName, "lost")
            self.raises(room, lambda: room.region("lost"), NoName, "lost")

    def test_nothing_left_to_undo(self):
        room = Room()
        self.raises(room, lambda: room.undo("ann"), NothingLeft, None)
        room.put("ann", "a", ONE)
        self.raises(room, lambda: room.undo("bob"), NothingLeft, None)
        room.undo("ann")
        self.raises(room, lambda: room.undo("ann"), NothingLeft, None)

    def test_too_many_comes_behind_the_others(self):
        room = Room()
        for name in NAMES[:20]:
            room.put("ann", name, ONE)
        self.raises(room, lambda: room.put("Ann", NAMES[20], None), InvalidName, "Ann")
        self.raises(room, lambda: room.put("ann", "A", None), InvalidName, "A")
        self.raises(room, lambda: room.put("ann", NAMES[20], None), InvalidRegion, None)
        self.raises(room, lambda: room.join("ann", NAMES[20], ONE), NoName, NAMES[20])


class TestUndo(RoomCase):

    def test_each_kind_of_call(self):
        room = Room()
        room.put("ann", "a", ONE)
        for call, after in [
            (lambda: room.put("bob", "a", TWO), TWO), (lambda: room.join("bob", "a", TWO), ONE | TWO),
            (lambda: room.cut("bob", "a", TWO), ONE - TWO), (lambda: room.cut("bob", "a", ONE), Region.empty()),
        ]:
            call()
            self.assertEqual(room.region("a"), after)
            self.assertEqual([room.undo("bob"), room.region("a"), len(room.log())], ["a", ONE, 1])
        room.drop("bob", "a")
        self.assertEqual([room.undo("bob"), room.region("a"), list(room.names())], ["a", ONE, ["a"]])
        room.put("bob", "b", TWO)
        self.assertEqual([room.undo("bob"), list(room.names())], ["b", ["a"]])

    def test_again_and_again(self):
        room = Room()
        states = []
        for at, box in enumerate([(0, 0, 1, 1), (5, 5, 6, 6), (BIG, 0, BIG + 1, 1)]):
            for call in (room.put, room.join, room.cut):
                states.append(state(room))
                call("ann", "ab"[at % 2] if call == room.put else "a", Region.of(box))
        states.append(state(room))
        room.drop("ann", "a")
        while states:
            room.undo("ann")
            self.assertEqual(state(room), states.pop())
        self.raises(room, lambda: room.undo("ann"), NothingLeft, None)

    def test_where_it_is_blocked(self):
        room = Room()
        room.put("ann", "a", ONE)
        room.put("bob", "b", ONE)
        room.join("bob", "a", TWO)
        self.raises(room, lambda: room.undo("ann"), Blocked, "a")
        room.drop("bob", "b")
        self.raises(room, lambda: room.undo("ann"), Blocked, "a")
        self.assertEqual([room.undo("bob"), room.undo("bob")], ["b", "a"])
        self.assertEqual([room.undo("ann"), list(room.names())], ["a", ["b"]])
        self.assertEqual(room.log(), [("bob", "put", "b")])

    def test_a_drop_blocks_and_calls_about_other_names_do_not(self):
        room = Room()
        room.put("ann", "a", ONE)
        room.put("bob", "b", TWO)
        room.cut("ann", "b", ONE)
        self.raises(room, lambda: room.undo("bob"), Blocked, "b")
        room.drop("bob", "a")
        self.assertEqual(room.undo("ann"), "b")
        self.raises(room, lambda: room.undo("ann"), Blocked, "a")
        self.assertEqual([room.undo("bob"), room.undo("bob"), room.undo("ann"), len(room)], ["a", "b", "a", 0])

    def test_a_call_behind_one_that_was_undone(self):
        room = Room()
        room.put("ann", "a", ONE)
        room.put("ann", "b", ONE)
        room.undo("ann")
        room.join("ann", "a", TWO)
        self.assertEqual(room.log(), [("ann", "put", "a"), ("ann", "join", "a")])
        self.assertEqual([room.undo("ann"), room.region("a"), room.undo("ann"), len(room)], ["a", ONE, "a", 0])

    def test_behind_trials(self):
        room = Room()
        room.put("ann", "a", ONE)
        room.join("bob", "a", TWO)
        with room.trial():
            room.undo("bob")
            room.undo("ann")
            room.put("cy", "a", ALMOST)
            room.put("cy", "b", ALMOST)
        self.assertEqual(room.log(), [("ann", "put", "a"), ("bob", "join", "a")])
        self.raises(room, lambda: room.undo("cy"), NothingLeft, None)
        self.raises(room, lambda: room.undo("ann"), Blocked, "a")
        self.assertEqual([room.undo("bob"), room.region("a"), room.undo("ann"), len(room)], ["a", ONE, "a", 0])


class TestTrials(RoomCase):

    def change(self, room):
        room.put("ann", "new", TWO)
        room.join("ann", "a", ALMOST)
        room.drop("bob", "a")
        room.undo("bob")
        room.undo("ann")
        room.cut("bob", "a", ONE)

    def filled(self):
        room = Room()
        room.put("ann", "a", ONE)
        room.put("bob", "b", TWO)
        return room

    def test_a_trial(self):
        room = self.filled()
        before = state(room)
        with room.trial() as held:
            self.assertIs(held, room)
            self.change(room)
            self.assertNotEqual(state(room), before)
        self.assertEqual(state(room), before)
        room.put("ann", "c", ONE)
        self.assertEqual(len(room), 3)

    def test_an_exception_is_not_held_back(self):
        room = self.filled()
        before = state(room)
        for error in (ValueError("x"), NoName("y"), KeyboardInterrupt()):
            with self.assertRaises(type(error)) as caught:
                with room.trial():
                    self.change(room)
                    raise error
            self.assertIs(caught.exception, error)
            self.assertEqual(state(room), before)
        with self.assertRaises(NoName):
            with room.trial():
                room.drop("ann", "a")
                room.region("a")
        self.assertEqual(state(room), before)

    def test_one_object_again_and_again(self):
        room = self.filled()
        trial = room.trial()
        for name in ("c", "d", "e"):
            before = state(room)
            with trial as held:
                self.change(held)
            self.assertEqual(state(room), before)
            room.put("ann", name, ONE)
        self.assertEqual([len(room), len(room.log())], [5, 5])

    def test_an_object_made_before_changes(self):
        room = self.filled()
        trial = room.trial()
        room.put("ann", "c", ONE)
        with trial:
            self.assertEqual(len(room), 3)
            room.drop("ann", "c")
        self.assertEqual(list(room.names()), ["a", "b", "c"])

    def test_trials_in_trials(self):
        room = self.filled()
        before = state(room)
        with room.trial():
            room.put("ann", "c", ONE)
            within = state(room)
            with room.trial():
                self.change(room)
                with self.assertRaises(NothingLeft):
                    with room.trial():
                        room.drop("cy", "b")
                        room.undo("zed")
                self.assertIn("b", list(room.names()))
            self.assertEqual(state(room), within)
            room.undo("ann")
        self.assertEqual(state(room), before)

    def test_blocks_that_overlap(self):
        room = self.filled()
        before = state(room)
        first, second = room.trial(), room.trial()
        first.__enter__()
        room.put("ann", "c", ONE)
        within = state(room)
        second.__enter__()
        self.change(room)
        self.assertFalse(second.__exit__(None, None, None))
        self.assertEqual(state(room), within)
        self.assertFalse(first.__exit__(None, None, None))
        self.assertEqual(state(room), before)

    def test_tried(self):
        room = self.filled()
        before = state(room)
        seen = []
        self.assertEqual(room.tried(lambda held: (self.change(held), seen.append(held is room), len(held))), (None, None, 3))
        self.assertEqual([state(room), seen], [before, [True]])
        self.assertEqual(room.tried(lambda held: held.tried(lambda inner: inner.undo("ann"))), "a")
        self.assertIs(room.tried(lambda held: held), room)
        self.assertEqual(state(room), before)
        error = ValueError("no")

        def failing(held):
            self.change(held)
            raise error

        with self.assertRaises(ValueError) as caught:
            room.tried(failing)
        self.assertIs(caught.exception, error)
        self.assertEqual(state(room), before)

    def test_copies_made_in_a_trial_stay(self):
        room = self.filled()
        with room.trial():
            self.change(room)
            kept = room.copy()
            told = state(room)
        self.assertEqual(state(kept), told)
        self.assertNotEqual(kept, room)


class TestCopiesAndEquality(RoomCase):

    def test_copies_are_independent(self):
        for room in (Room(), FixedRoom((0, 0, 9, 9))):
            room.put("ann", "a", ONE)
            room.join("bob", "a", TWO)
            other = room.copy()
            self.assertIs(type(other), type(room))
            self.assertIsNot(other, room)
            self.assertEqual([other, state(other)], [room, state(room)])
            before = state(room)
            self.raises(other, lambda: other.undo("ann"), Blocked, "a")
            self.assertEqual([other.undo("bob"), other.region("a")], ["a", ONE])
            other.put("cy", "b", ONE)
            self.assertEqual(state(room), before)
            room.drop("ann", "a")
            self.assertEqual(list(other.names()), ["a", "b"])

    def test_equality(self):
        room, other = Room(), Room()
        self.assertEqual(room, other)
        room.put("ann", "a", ONE)
        self.assertNotEqual(room, other)
        other.put("bob", "a", TWO)
        self.assertNotEqual(room, other)
        other.put("bob", "a", Region.of((0, 0, 2, 1), (0, 1, 2, 2)))
        self.assertEqual(room, other)
        self.assertFalse(room != other)
        self.assertNotEqual(room.log(), other.log())
        room.put("ann", "b", TWO)
        other.put("bob", "c", TWO)
        self.assertNotEqual(room, other)
        other.drop("bob", "c")
        other.put("bob", "b", TWO)
        self.assertEqual(room, other)

    def test_the_order_of_names_does_not_count(self):
        room, other = Room(), Room()
        for name in ("a", "b"):
            room.put("ann", name, ONE)
        for name in ("b", "a"):
            other.put("ann", name, ONE)
        self.assertEqual(room, other)

    def test_other_values(self):
        for room in (Room(), FixedRoom((0, 0, 1, 1))):
            for thing in [None, 0, {}, [], (), "", Region.empty(), object(), Room, len(room)]:
                self.assertFalse(room == thing)
                self.assertTrue(room != thing)
                self.assertFalse(thing == room)

    def test_fixed_rooms(self):
        room, fixed, wider = Room(), FixedRoom((0, 0, 5, 5)), FixedRoom((-9, 0, 5, 5))
        self.assertTrue(room == fixed and fixed == room and fixed == wider)
        for one in (room, fixed, wider):
            one.put("ann", "a", ONE)
        self.assertTrue(room == fixed and fixed == room and fixed == wider)
        fixed.cut("bob", "a", ONE)
        self.assertTrue(room != fixed and fixed != room and fixed != wider)


class TestFixedRooms(RoomCase):

    def test_example(self):
        with self.assertRaises(Outside) as caught:
            FixedRoom((0, 0, 5, 5)).put("ann", "a", Region.of((4, 4, 6, 5)))
        self.assertEqual(caught.exception.value, "a")

    def test_no_boxes(self):
        for bad in NO_BOXES:
            with self.assertRaises(InvalidBox) as caught:
                FixedRoom(bad)
            self.assertIs(caught.exception.value, bad)

    def test_the_frame(self):
        room = FixedRoom((-BIG, 0, BIG, 7))
        self.assertEqual([room.frame, room.copy().frame], [(-BIG, 0, BIG, 7)] * 2)
        self.assertIsInstance(room, Room)
        self.assertFalse(hasattr(Room(), "frame"))

    def test_put_and_join_outside(self):
        room = FixedRoom((0, 0, BIG, 5))
        room.put("ann", "a", ONE)
        far = Region.of((0, 0, 1, 1), (BIG - 1, 4, BIG + 1, 5))
        for region in (far, ALMOST, Region.everything(), ~Region.of((-9, -9, BIG + 9, 9)), Region.of((-1, 0, 0, 1)), Region.of((0, 5, 1, 6))):
            for name in ("a", "b"):
                self.raises(room, lambda: room.put("ann", name, region), Outside, name)
            self.raises(room, lambda: room.join("ann", "a", region), Outside, "a")
            self.raises(room, lambda: room.join("ann", "b", region), NoName, "b")
            self.raises(room, lambda: room.join("Ann", "a", region), InvalidName, "Ann")
            self.raises(room, lambda: room.put("ann", "", region), InvalidName, "")
        full = Region.of((0, 0, BIG, 5))
        room.put("bob", "b", full)
        room.join("bob", "a", full)
        self.assertEqual([room.region("a"), room.whole], [full, full])
        room.put("bob", "none", Region.empty())
        self.assertEqual(room.region("none"), Region.empty())

    def test_cut_takes_any_region(self):
        room = FixedRoom((0, 0, 5, 5))
        room.put("ann", "a", ONE)
        room.cut("ann", "a", ALMOST)
        self.assertEqual(room.region("a"), Region.of((0, 0, 1, 1)))
        room.cut("ann", "a", Region.everything())
        self.assertEqual([room.region("a"), room.undo("ann"), room.undo("ann"), room.region("a")], [Region.empty(), "a", "a", ONE])

    def test_too_many_comes_before_outside(self):
        room = FixedRoom((0, 0, 5, 5))
        for name in NAMES[:20]:
            room.put("ann", name, ONE)
        self.raises(room, lambda: room.put("ann", NAMES[20], ALMOST), TooMany, 20)
        self.raises(room, lambda: room.put("ann", NAMES[2], ALMOST), Outside, NAMES[2])

    def test_a_copy_keeps_the_box(self):
        other = FixedRoom((0, 0, 5, 5)).copy()
        self.raises(other, lambda: other.put("ann", "a", Region.of((4, 4, 6, 5))), Outside, "a")
        other.put("ann", "a", ONE)
        with other.trial() as held:
            self.raises(held, lambda: held.join("ann", "a", ALMOST), Outside, "a")
            held.drop("ann", "a")
        self.assertEqual([other.frame, other.region("a")], [(0, 0, 5, 5), ONE])


if __name__ == "__main__":
    unittest.main()

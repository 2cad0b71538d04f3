"""Stage 12: the console."""

import random
import unittest

from boxregions.console import Console
from boxregions.counting import count
from boxregions.errors import InvalidLine, InvalidNumber, InvalidText, NoName, Unbounded
from boxregions.growing import around
from boxregions.parts import holes, parts
from boxregions.reaches import reach
from boxregions.regions import Region
from boxregions.splitting import fewest
from boxregions.texts import format_region, parse_region
from tests import slow
from tests.grids import BIG

NO_LINES = [None, 0, True, b"names", ["names"], ("names",), {}, {"names"}, Region.empty(), object()]
NO_NAMES = ["", "A", "a1", "abcdefghi", "a-b", "a_b", "\u00e4", "a\t", "\u0430", "A" * 3, "1", "-", "a.b", "a;"]
NO_NUMBERS = [
    "", "+1", "01", "-0", "-01", "--1", "1.0", "1e3", "x", "a", "-", "1_0", "\u0661", "\u00b2", "0x1", "1,", "00", "1-",
    "1" * 41, "-" + "1" * 41, "0" * 40,
]
FORMS = [
    "show N", "or N N", "and N N", "less N N", "not N", "grow N I", "shrink N I", "in N I I", "count N", "parts N", "holes N",
    "fewest N", "reach N N", "drop N", "names",
]
VERBS = ["set"] + [form.split(" ")[0] for form in FORMS]
RING = "0 0 2 6; 2 0 5 1; 2 5 5 6; 5 0 6 6"


def filled():
    """Returns a console with some regions, and a dict of them."""
    texts = {"a": RING, "b": "2 2 3 3", "far": f"{BIG} 0 {BIG + 2} 3", "no": "none", "every": "all", "out": "all but 0 0 3 3; 5 5 6 6"}
    console = Console()
    for name, text in texts.items():
        console.run(f"set {name} {text}")
    return console, {name: parse_region(text) for name, text in texts.items()}


class ConsoleCase(unittest.TestCase):

    def raises(self, console, line, error, value):
        """Checks that a line raises an exception with a value and changes nothing."""
        before = self.state(console)
        with self.assertRaises(error, msg=repr(line)) as caught:
            console.run(line)
        self.assertIs(type(caught.exception), error)
        self.assertEqual(caught.exception.value, value)
        self.assertEqual(self.state(console), before)
        return caught.exception.value

    def state(self, console):
        names = console.run("names")
        return names, len(console), [console.run("show " + name) for name in names.split(" ") if name != "-"]


class TestLines(ConsoleCase):

    def test_example(self):
        console = Console()
        lines = ["set a 0 0 3 3", "set b all but 1 1 2 2", "and a b", "holes b", "in b 1 1"]
        got = [console.run(line) for line in lines]
        self.assertEqual(got, ["ok", "ok", "0 0 1 3; 1 0 2 1; 1 2 2 3; 2 0 3 3", "1", "no"])

    def test_names(self):
        console = Console()
        self.assertEqual([console.run("names"), len(console)], ["-", 0])
        for name in ("b", "abcdefgh", "a", "ab", "z", "set", "names", "none", "all"):
            self.assertEqual(console.run(f"set {name} none"), "ok")
        self.assertEqual(console.run("names"), "a ab abcdefgh all b names none set z")
        self.assertEqual(len(console), 9)
        self.assertEqual([console.run("drop ab"), len(console)], ["ok", 8])
        self.assertEqual(console.run("names"), "a abcdefgh all b names none set z")
        self.raises(console, "drop ab", NoName, "ab")
        self.assertEqual([console.run("set b all"), console.run("show b"), len(console)], ["ok", "all", 8])

    def test_more_than_twenty_names(self):
        console = Console()
        names = [first + second for first in "abcdef" for second in "abcdef"]
        for at, name in enumerate(names):
            self.assertEqual(console.run(f"set {name} {at} 0 {at + 1} 1"), "ok")
        self.assertEqual([console.run("names"), len(console)], [" ".join(names), 36])
        self.assertEqual(console.run("show ff"), "35 0 36 1")

    def test_set_and_show(self):
        console = Console()
        for text, shown in [
            ("none", "none"), ("all", "all"), ("1 0 3 1; 0 0 2 1", "0 0 3 1"), ("all but 1 0 3 1; 0 0 2 1", "all but 0 0 3 1"),
            (f"{-BIG} 0 {BIG} {10 ** 45}", f"{-BIG} 0 {BIG} {10 ** 45}"),
        ]:
            self.assertEqual([console.run("set name " + text), console.run("show name")], ["ok", shown])
        for text in ("", " ", "x", "0 0 1", "0 0 1 1 ", " 0 0 1 1", "0 0 1 1;", "all but", "all but none", "-0 0 1 1", "0 0 0 1", "b"):
            self.raises(console, "set name " + text, InvalidText, text)
            self.raises(console, "set other " + text, InvalidText, text)

    def test_answers(self):
        console, regions = filled()
        for one, first in regions.items():
            self.assertEqual(console.run(f"show {one}"), format_region(first))
            self.assertEqual(console.run(f"not {one}"), format_region(~first))
            self.assertEqual(console.run(f"parts {one}"), str(len(parts(first))))
            self.assertEqual(console.run(f"holes {one}"), str(len(holes(first))))
            for distance in (0, 1, 2, BIG):
                self.assertEqual(console.run(f"grow {one} {distance}"), format_region(first + around(distance)))
                self.assertEqual(console.run(f"shrink {one} {distance}"), format_region(first // around(distance)))
            for square in [(0, 0), (2, 2), (3, 3), (5, 5), (BIG, 2), (-1, -1), (-BIG, BIG)]:
                self.assertEqual(console.run("in {} {} {}".format(one, *square)), "yes" if square in first else "no")
            if first.is_bounded:
                self.assertEqual(console.run(f"count {one}"), str(count(first)))
                self.assertEqual(console.run(f"fewest {one}"), str(fewest(first)))
            else:
                for word in ("count", "fewest"):
                    self.raises(console, f"{word} {one}", Unbounded, first)
            for other, second in regions.items():
                self.assertEqual(console.run(f"or {one} {other}"), format_region(first | second))
                self.assertEqual(console.run(f"and {one} {other}"), format_region(first & second))
                self.assertEqual(console.run(f"less {one} {other}"), format_region(first - second))
                distance = reach(first, second)
                self.assertEqual(console.run(f"reach {one} {other}"), "none" if distance is None else str(distance))

    def test_some_answers_as_they_stand(self):
        console, _ = filled()
        for line, want in [
            ("count a", "24"), ("parts a", "1"), ("holes a", "1"), ("fewest a", "4"), ("reach a b", "1"), ("reach a no", "none"),
            ("in a 0 5", "yes"), ("in a 2 2", "no"), ("grow b 1", "1 1 4 4"), ("shrink a 1", "none"), ("not every", "none"),
            ("holes out", "2"), ("parts out", "1"), ("less every b", "all but 2 2 3 3"), ("or out a", "all but 2 1 3 3"),
            ("count far", "6"), ("in far 1000000000000000000000000000001 2", "yes"), ("parts no", "0"), ("count no", "0"),
            ("reach a far", str(BIG - 5)), ("names", "a b every far no out"), ("and no every", "none"),
        ]:
            self.assertEqual(console.run(line), want, line)

    def test_regions_as_they_were_touching_by_corners(self):
        console = Console()
        console.run("set a 0 0 1 1; 1 1 2 2")
        self.assertEqual([console.run("parts a"), console.run("holes a"), console.run("fewest a")], ["2", "0", "2"])
        console.run("set b all but 0 0 1 1; 1 1 2 2")
        self.assertEqual([console.run("parts b"), console.run("holes b")], ["1", "1"])

    def test_long_sequences_beside_a_dict(self):
        chance = random.Random(12)
        console, kept = Console(), {}
        pairs = slow.larger_pairs()[:30]
        for _ in range(400):
            name = chance.choice(["a", "bb", "ccc", "dddddddd"])
            if chance.random() < 0.5:
                region = slow.region_of_pair(*chance.choice(pairs))
                self.assertEqual(console.run(f"set {name} {format_region(region)}"), "ok")
                kept[name] = region
            elif chance.random() < 0.5:
                if name in kept:
                    self.assertEqual(console.run(f"drop {name}"), "ok")
                    del kept[name]
                else:
                    self.raises(console, f"drop {name}", NoName, name)
            elif name in kept:
                self.assertEqual(console.run(f"grow {name} 2"), format_region(kept[name] + around(2)))
                self.assertEqual(console.run(f"show {name}"), format_region(kept[name]))
            else:
                self.raises(console, f"show {name}", NoName, name)
            self.assertEqual(console.run("names"), " ".join(sorted(kept)) or "-")
            self.assertEqual(len(console), len(kept))


class TestErrors(ConsoleCase):

    def lines(self):
        """Yields a right line of each form."""
        for form in FORMS:
            yield form.replace("N", "a").replace("I", "1")

    def test_other_values(self):
        for bad in NO_LINES:
            console, _ = filled()
            self.assertIs(self.raises(console, bad, InvalidLine, bad), bad)

    def test_words_left_out_added_doubled_or_changed(self):
        for line in self.lines():
            words = line.split(" ")
            console, _ = filled()
            wrong = [" ".join(words[:at] + words[at + 1:]) for at in range(len(words))]
            wrong += [" ".join(words[:at] + [word] + words[at:]) for at in range(len(words) + 1) for word in ("a", "1", "", "x", "0")]
            wrong += [" ".join(words[:at + 1] + words[at:]) for at in range(len(words))]
            wrong += [line + " ", " " + line, line.upper(), line.title(), line + "\n", "\n" + line, line + ";", line.replace(" ", "\n")]
            if len(words) > 1:
                wrong += [line.replace(" ", sign) for sign in ("  ", "\t", ",", "\u00a0")]
            for other in wrong:
                if not self.is_right(other):
                    self.raises(console, other, InvalidLine, other)

    def is_right(self, line):
        """Returns whether a changed line happens to be of a form."""
        shape = "".join("I" if word in ("0", "1") else "N" if word in ("a", "x") else "?" for word in line.split(" ")[1:])
        return line.split(" ")[0] in VERBS and f"{line.split(' ')[0]} {' '.join(shape)}".strip() in FORMS

    def test_set_with_words_left_out_or_changed(self):
        console, _ = filled()
        for line in ("set", "set a", "set ", "set  0 0 1 1", "Set a none", "set A none", " set a none", "set a none\n", "set\na none",
                     "set a\nnone", "set 0 0 1 1", "sets a none", "set  a none", "set abcdefghi none", "seta none"):
            self.raises(console, line, InvalidLine, line)
        self.raises(console, "set a ", InvalidText, "")
        self.raises(console, "set a  none", InvalidText, " none")
        self.raises(console, "set a none ", InvalidText, "none ")
        self.raises(console, "set a none none", InvalidText, "none none")
        self.raises(console, "set a b", InvalidText, "b")
        self.raises(console, "set a 0 0 1 1\r", InvalidText, "0 0 1 1\r")
        self.raises(console, "set new 0 0 1", InvalidText, "0 0 1")

    def test_other_first_words(self):
        console, _ = filled()
        for line in ("", " ", "a", "show", "help", "xor a b", "plus a b", "join a b", "name", "names a", "names ", "quit", "-", "len"):
            self.raises(console, line, InvalidLine, line)

    def test_names_that_are_no_names(self):
        console, _ = filled()
        for form in FORMS[:-1]:
            for bad in NO_NAMES:
                for at in range(form.count("N")):
                    words = [word.replace("I", "1") for word in form.split(" ")]
                    words = [word.replace("N", bad if k == at + 1 else "a") for k, word in enumerate(words)]
                    self.raises(console, " ".join(words), InvalidLine, " ".join(words))
        for bad in NO_NAMES:
            self.raises(console, f"set {bad} none", InvalidLine, f"set {bad} none")

    def test_numbers_that_are_no_numbers(self):
        console, _ = filled()
        for bad in NO_NUMBERS:
            for line in (f"grow a {bad}", f"shrink a {bad}", f"in a {bad} 0", f"in a 0 {bad}", f"grow lost {bad}", f"in lost {bad} 1"):
                self.raises(console, line, InvalidLine, line)

    def test_numbers_of_40_and_of_41_digits(self):
        console, _ = filled()
        long, longer = "9" * 40, "1" + "0" * 40
        for sign in ("", "-"):
            self.assertEqual(console.run(f"in every {sign}{long} 0"), "yes")
            self.assertEqual(console.run(f"in every 0 {sign}{long}"), "yes")
            for line in (f"in every {sign}{longer} 0", f"in every 0 {sign}{longer}", f"grow a {sign}{longer}", f"shrink a {sign}{longer}"):
                self.raises(console, line, InvalidLine, line)
        self.assertEqual(console.run(f"grow b {long}"), f"{2 - int(long)} {2 - int(long)} {3 + int(long)} {3 + int(long)}")
        self.assertEqual(console.run(f"shrink a {long}"), "none")
        self.raises(console, f"grow a -{long}", InvalidNumber, -int(long))

    def test_names_that_are_not_kept(self):
        console, _ = filled()
        for form in FORMS[:-1]:
            one = form.replace("I", "1").replace("N", "lost")
            self.raises(console, one, NoName, "lost")
            if form.count("N") == 2:
                verb = form.split(" ")[0]
                self.raises(console, f"{verb} lost a", NoName, "lost")
                self.raises(console, f"{verb} a lost", NoName, "lost")
                self.raises(console, f"{verb} lost gone", NoName, "lost")
                self.raises(console, f"{verb} gone lost", NoName, "gone")

    def test_the_order_of_errors(self):
        console, _ = filled()
        self.raises(console, "grow lost -1", NoName, "lost")
        self.raises(console, "grow a -1", InvalidNumber, -1)
        self.raises(console, "shrink a -5", InvalidNumber, -5)
        self.raises(console, "grow lost x", InvalidLine, "grow lost x")
        self.raises(console, "or lost A", InvalidLine, "or lost A")
        self.raises(console, "set A x", InvalidLine, "set A x")
        self.raises(console, "set a x\n", InvalidLine, "set a x\n")
        self.raises(console, "count lost", NoName, "lost")
        self.raises(console, "count out", Unbounded, parse_region("all but 0 0 3 3; 5 5 6 6"))
        self.assertEqual(console.run("set lost all"), "ok")

    def test_the_value_of_an_error_is_the_region_that_is_kept(self):
        console, regions = filled()
        with self.assertRaises(Unbounded) as caught:
            console.run("fewest every")
        self.assertEqual(caught.exception.value, regions["every"])

    def test_two_consoles_are_independent(self):
        console, _ = filled()
        other, _ = filled()
        console.run("drop a")
        self.assertEqual([len(console), len(other), other.run("count a")], [5, 6, "24"])


if __name__ == "__main__":
    unittest.main()

"""Stage 12: texts that write regions."""

import random
import unittest

from boxregions.errors import InvalidRegion, InvalidText
from boxregions.moves import mirrored, scaled, shifted, turned
from boxregions.regions import Region
from boxregions.texts import format_region, parse_region
from tests import slow
from tests.grids import BIG, NO_REGIONS

NO_TEXTS = [
    None, 0, True, b"none", b"0 0 1 1", ["none"], ("none",), {}, {"none"}, Region.empty(), (0, 0, 1, 1), object(), [],
]
# Of these each part is wrong in one way.
WRONG = [
    "", " ", "None", "NONE", "none ", " none", "none;", "none; none", "nothing", "empty", "all ", " all", "All", "all but",
    "all but ", "all but none", "all but all", "all but all but 0 0 1 1", "all  but 0 0 1 1", "all but  0 0 1 1",
    "all but\t0 0 1 1", "all\nbut 0 0 1 1", "allbut 0 0 1 1", "but 0 0 1 1", "All but 0 0 1 1", "all but 0 0 1 1;", "all; 0 0 1 1",
    "0 0 1 1; all but 2 2 3 3", "0 0 1 1; none", "none; 0 0 1 1", "0 0 1 1; all", "all but 0 0 1 1; none",
    "0", "0 0", "0 0 1", "0 0 1 1 1", "0 0 1 1 ", " 0 0 1 1", "0  0 1 1", "0 0 1  1", "0\t0 1 1", "0 0 1 1\n", "\n0 0 1 1",
    "0\n0 1 1", "0 0 1 1\r", "0,0,1,1", "0, 0, 1, 1", "0_0 0 1 1", "(0, 0, 1, 1)", "0 0 1 1.", "0 0 1 1.0", "0 0 1e1 1",
    "+0 0 1 1", "0 0 +1 1", "00 0 1 1", "0 0 01 1", "0 0 1 001", "-0 0 1 1", "0 -0 1 1", "-01 0 1 1", "--1 0 1 1", "- 1 0 1 1",
    "-1- 0 1 1", "- 0 1 1", "0 - 1 1", "-", "0 0 1 -", "0x1 0 2 1", "a 0 1 1", "0 0 1 l", "0 0 1 1;1 0 2 1", "0 0 1 1;  1 0 2 1",
    "0 0 1 1 ; 1 0 2 1", "0 0 1 1, 1 0 2 1", "0 0 1 1 1 0 2 1", "0 0 1 1;; 1 0 2 1", "0 0 1 1; ; 1 0 2 1", "; 0 0 1 1", "0 0 1 1; ",
    "0 0 1 1;", "0 0 1 1\n1 0 2 1", "0 0 1 1;\n1 0 2 1", "0 0 1 1;\t1 0 2 1", "0 0 1 1; 1 0 2", "0 0 1 1; 1 0 2 1 3",
    "0 0 0 1", "0 0 1 0", "1 0 0 1", "0 1 1 0", "0 0 0 0", "0 0 1 1; 3 0 3 1", "all but 0 0 0 1", "0 0 -1 1",
    "\u0660 0 1 1", "0 0 \u0661 1", "0 0 \u00b9 1", "0 0 1 \uff11", "0 0 1 \u2160", "\u22121 0 1 1", "0\u00a00 1 1", "0 0 1 1\u2028",
    "\ufeff0 0 1 1", "0 0 1 1\x00", "0 0 1 1\x0b", "'0 0 1 1'", "Region([])", "-",
]


class TestTexts(unittest.TestCase):

    def test_example(self):
        self.assertEqual([format_region(~Region.empty()), parse_region("0 0 2 1; 1 0 3 1").slabs], ["all", [(0, 3, [(0, 1)])]])

    def test_texts_of_regions(self):
        for region, text in [
            (Region.empty(), "none"), (Region.everything(), "all"), (Region.of((0, 0, 1, 1)), "0 0 1 1"),
            (~Region.of((-3, -10, 2, 0)), "all but -3 -10 2 0"),
            (Region.of((0, 0, 4, 2), (2, 0, 4, 5)), "0 0 2 2; 2 0 4 5"),
            (Region.of((0, 0, 1, 1), (0, 2, 1, 3), (5, 0, 6, 1)), "0 0 1 1; 0 2 1 3; 5 0 6 1"),
            (~Region.of((0, 0, 1, 1), (0, 2, 1, 3)), "all but 0 0 1 1; 0 2 1 3"),
            (Region.of((-BIG, 0, BIG, 5)), f"-{BIG} 0 {BIG} 5"),
        ]:
            self.assertEqual(format_region(region), text)
            self.assertEqual(parse_region(text), region)

    def check(self, region):
        text = format_region(region)
        self.assertEqual(parse_region(text), region)
        self.assertEqual(format_region(parse_region(text)), text)
        side = region if region.is_bounded else ~region
        words = "; ".join(" ".join(map(str, box)) for box in side.boxes())
        if side:
            self.assertEqual(text, words if region.is_bounded else "all but " + words)

    def test_all_small_regions(self):
        for pair in slow.small_pairs(3, 3):
            self.check(slow.region_of_pair(*pair))

    def test_larger_regions(self):
        for pair in slow.larger_pairs():
            for region in (slow.region_of_pair(*pair), slow.stretched(*pair)):
                for move in (lambda one: shifted(one, -BIG, 7), mirrored, turned, lambda one: scaled(one, 10 ** 9)):
                    self.check(move(region))
                self.check(region)

    def test_a_hundred_spans(self):
        many = Region.of(*[(k * BIG, -k * BIG, k * BIG + 5, -k * BIG + 5) for k in range(100)])
        self.check(many)
        self.check(~many)

    def test_boxes_in_any_order(self):
        chance = random.Random(9)
        for _ in range(100):
            boxes = []
            for _ in range(chance.randrange(1, 7)):
                x, y = chance.randrange(-5, 5) * BIG, chance.randrange(-5, 5)
                boxes.append((x, y, x + chance.randrange(1, 4) * BIG, y + chance.randrange(1, 4)))
            boxes.append(boxes[0])
            chance.shuffle(boxes)
            text = "; ".join(" ".join(map(str, box)) for box in boxes)
            self.assertEqual(parse_region(text), Region.of(*boxes))
            self.assertEqual(parse_region("all but " + text), ~Region.of(*boxes))

    def test_no_regions(self):
        for bad in NO_REGIONS:
            with self.assertRaises(InvalidRegion) as caught:
                format_region(bad)
            self.assertIs(caught.exception.value, bad)

    def test_other_values_and_texts(self):
        for bad in NO_TEXTS + WRONG:
            with self.assertRaises(InvalidText, msg=repr(bad)) as caught:
                parse_region(bad)
            self.assertIs(caught.exception.value, bad)

    def test_texts_with_one_character_changed(self):
        for text in ("0 0 12 1; 1 -20 3 1", "all but 0 0 1 1", "none", "all"):
            for at in range(len(text) + 1):
                for sign in "+;, \n\tx.":
                    longer = text[:at] + sign + text[at:]
                    with self.assertRaises(InvalidText, msg=repr(longer)) as caught:
                        parse_region(longer)
                    self.assertEqual(caught.exception.value, longer)
                if at < len(text) and not text[at].isdigit() and text[at] != "-":
                    with self.assertRaises(InvalidText):
                        parse_region(text[:at] + text[at + 1:])

    def test_arguments_do_not_change(self):
        region = ~Region.of((0, 0, 1, 1))
        before = repr(region)
        format_region(region)
        self.assertEqual(repr(region), before)


if __name__ == "__main__":
    unittest.main()

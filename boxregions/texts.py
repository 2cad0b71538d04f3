"""Texts that write regions."""

from boxregions.errors import InvalidText
from boxregions.regions import Region, check_region, is_box

DIGITS = "0123456789"
# Such a text is followed by what an unbounded region lacks.
ALL_BUT = "all but "


def format_region(region):
    """Returns the text that writes a region by the boxes of its form."""
    check_region(region)
    if region.is_bounded:
        return _boxes_text(region) if region else "none"
    missing = ~region
    return ALL_BUT + _boxes_text(missing) if missing else "all"


def parse_region(text):
    """Returns the region that a text writes, by any boxes in any order."""
    if not isinstance(text, str):
        raise InvalidText(text)
    if text == "none":
        return Region.empty()
    if text == "all":
        return Region.everything()
    boxes = [_box_of(part) for part in text.removeprefix(ALL_BUT).split("; ")]
    if None in boxes:
        raise InvalidText(text)
    union = Region.of(*boxes)
    return ~union if text.startswith(ALL_BUT) else union


def is_numeral(text):
    """Returns whether a text is an integer in decimal without a plus sign or leading zeros, zero being 0."""
    digits = text.removeprefix("-")
    if not digits or not all([digit in DIGITS for digit in digits]):
        return False
    return text == "0" or digits[0] != "0"


def _boxes_text(region):
    """Returns the boxes of the form of a region as a text."""
    return "; ".join([" ".join([str(number) for number in box]) for box in region.boxes()])


def _box_of(text):
    """Returns the box that a text writes, None if it writes none."""
    words = text.split(" ")
    if len(words) != 4 or not all([is_numeral(word) for word in words]):
        return None
    box = tuple([int(word) for word in words])
    return box if is_box(box) else None

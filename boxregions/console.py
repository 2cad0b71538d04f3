"""A console: named regions that lines of words keep, combine and ask about."""

from boxregions.checks import is_short_word
from boxregions.counting import count
from boxregions.errors import InvalidLine, NoName
from boxregions.growing import around
from boxregions.parts import holes, parts
from boxregions.reaches import reach
from boxregions.splitting import fewest
from boxregions.texts import format_region, is_numeral, parse_region

MOST_DIGITS = 40

# What stands behind the first word: n is a name, i an integer. Behind set stand a name and any words.
FORMS = {
    "drop": "n",
    "names": "",
    "show": "n",
    "or": "nn",
    "and": "nn",
    "less": "nn",
    "not": "n",
    "grow": "ni",
    "shrink": "ni",
    "in": "nii",
    "count": "n",
    "parts": "n",
    "holes": "n",
    "fewest": "n",
    "reach": "nn",
}


def _shown(region):
    return format_region(region)


def _union(one, other):
    return format_region(one | other)


def _meet(one, other):
    return format_region(one & other)


def _difference(one, other):
    return format_region(one - other)


def _complement(region):
    return format_region(~region)


def _grown(region, distance):
    return format_region(region + around(distance))


def _shrunk(region, distance):
    return format_region(region // around(distance))


def _is_in(region, x, y):
    return "yes" if (x, y) in region else "no"


def _count(region):
    return str(count(region))


def _part_count(region):
    return str(len(parts(region)))


def _hole_count(region):
    return str(len(holes(region)))


def _fewest(region):
    return str(fewest(region))


def _reach(one, other):
    distance = reach(one, other)
    return "none" if distance is None else str(distance)


# What answers the lines that change nothing, called with the regions and the integers of the line.
ANSWERS = {
    "show": _shown,
    "or": _union,
    "and": _meet,
    "less": _difference,
    "not": _complement,
    "grow": _grown,
    "shrink": _shrunk,
    "in": _is_in,
    "count": _count,
    "parts": _part_count,
    "holes": _hole_count,
    "fewest": _fewest,
    "reach": _reach,
}


class Console:
    """Regions that are kept under names by lines of words."""

    def __init__(self):
        self._regions = {}

    def run(self, line):
        """Executes a line and returns a text."""
        if not _is_line(line):
            raise InvalidLine(line)
        word, *rest = line.split(" ")
        if word == "set":
            self._regions[rest[0]] = parse_region(" ".join(rest[1:]))
            return "ok"
        if word == "names":
            return " ".join(sorted(list(self._regions))) or "-"
        told = self._told(FORMS[word], rest)
        if word == "drop":
            del self._regions[rest[0]]
            return "ok"
        answer = ANSWERS[word]
        return answer(*told)

    def __len__(self):
        return len(self._regions)

    def _told(self, kinds, words):
        """Returns the regions and integers that words tell."""
        told = []
        for kind, word in zip(kinds, words):
            if kind == "i":
                told.append(int(word))
            elif word in self._regions:
                told.append(self._regions[word])
            else:
                raise NoName(word)
        return told


def _is_line(thing):
    """Returns whether a value is a line of one of the forms."""
    if not isinstance(thing, str) or "\n" in thing:
        return False
    word, *rest = thing.split(" ")
    if word == "set":
        return len(rest) >= 2 and is_short_word(rest[0])
    kinds = FORMS.get(word)
    if kinds is None or len(kinds) != len(rest):
        return False
    return all([_is_of_kind(kind, text) for kind, text in zip(kinds, rest)])


def _is_of_kind(kind, text):
    """Returns whether a word may stand where a name, or an integer, is asked for."""
    if kind == "n":
        return is_short_word(text)
    return is_numeral(text) and len(text.removeprefix("-")) <= MOST_DIGITS

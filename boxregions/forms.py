"""Forms of bounded regions, and how two of them are combined.

A form is kept as a tuple of slabs (x1, x2, spans), with the spans as a tuple
of pairs (y1, y2): so it cannot change, and several regions may share it.

A combination is told by a tuple of four truth values: whether it keeps what
is in neither of two forms, only in the second, only in the first, in both.
"""

EITHER = (False, True, True, True)
BOTH = (False, False, False, True)
ONLY_FIRST = (False, False, True, False)
EXACTLY_ONE = (False, True, True, False)


def combined_spans(one, other, kept):
    """Returns the spans of what kept keeps of two tuples of spans; it must not keep what is in neither."""
    marks = sorted([(y, 2) for span in one for y in span] + [(y, 1) for span in other for y in span])
    cuts = []
    state = 0
    for y, bit in marks:
        after = state ^ bit
        if kept[after] != kept[state]:
            # Two changes at the same place leave no squares between them.
            if cuts and cuts[-1] == y:
                cuts.pop()
            else:
                cuts.append(y)
        state = after
    return tuple([(cuts[k], cuts[k + 1]) for k in range(0, len(cuts), 2)])


def steps_of(slabs):
    """Returns a dict from each x at which the spans of a form may change to the spans from there on."""
    steps = {}
    for x1, x2, spans in slabs:
        steps[x1] = spans
        # A slab that begins here replaces this in the next round.
        steps[x2] = ()
    return steps


def changes_of(slabs):
    """Returns, ascending, tuples (x, before, after): the spans of a form left and right of where they may change."""
    changes = []
    before = ()
    for x, after in steps_of(slabs).items():
        changes.append((x, before, after))
        before = after
    return changes


def form_of_steps(steps):
    """Returns the form of a list of pairs (x, spans), ascending, the last one without spans."""
    slabs = []
    for (x1, spans), (x2, _) in zip(steps, steps[1:]):
        if slabs and slabs[-1][1] == x1 and slabs[-1][2] == spans:
            slabs[-1] = (slabs[-1][0], x2, spans)
        elif spans:
            slabs.append((x1, x2, spans))
    return tuple(slabs)


def combined(one, other, kept):
    """Returns the form of what kept keeps of two forms; it must not keep what is in neither."""
    first = steps_of(one)
    second = steps_of(other)
    here = ()
    there = ()
    steps = []
    for x in sorted(set(list(first) + list(second))):
        here = first.get(x, here)
        there = second.get(x, there)
        steps.append((x, combined_spans(here, there, kept)))
    return form_of_steps(steps)


def form_of_boxes(boxes):
    """Returns the form of the union of boxes."""
    # An object of a class under int may write itself in another way; int(..) takes the plain number.
    forms = [((int(x1), int(x2), ((int(y1), int(y2)),)),) for x1, y1, x2, y2 in boxes]
    # Uniting in rounds, two by two, is faster than adding the boxes one by one to a growing form.
    while len(forms) > 1:
        forms = [combined(one, other, EITHER) for one, other in zip(forms[::2], forms[1::2] + [()])]
    return forms[0] if forms else ()


def frame_of(slabs):
    """Returns the smallest box around a form, None around the one without slabs."""
    if not slabs:
        return None
    y1 = min([spans[0][0] for _, _, spans in slabs])
    y2 = max([spans[-1][1] for _, _, spans in slabs])
    return (slabs[0][0], y1, slabs[-1][1], y2)


def reflected(box):
    """Returns the box of all (-u, -v) with (u, v) in a box."""
    u1, v1, u2, v2 = box
    return (1 - u2, 1 - v2, 1 - u1, 1 - v1)


def grown(slabs, box):
    """Returns the form of all (x + u, y + v) with (x, y) in a form and (u, v) in a box."""
    u1, v1, u2, v2 = box
    return form_of_boxes([
        (x1 + u1, y1 + v1, x2 + u2 - 1, y2 + v2 - 1) for x1, x2, spans in slabs for y1, y2 in spans
    ])


def shrunk(slabs, box):
    """Returns the form of all (x, y) such that a form has (x + u, y + v) for every (u, v) in a box."""
    if not slabs:
        return ()
    frame = frame_of(slabs)
    x1, y1, x2, y2 = frame
    u1, v1, u2, v2 = box
    fitting = (x1 - u1, y1 - v1, x2 - u2 + 1, y2 - v2 + 1)
    if fitting[0] >= fitting[2] or fitting[1] >= fitting[3]:
        return ()
    # Where the box stays inside the frame, only what the frame has beyond the form can keep it out.
    lacking = combined(form_of_boxes([frame]), slabs, ONLY_FIRST)
    return combined(form_of_boxes([fitting]), grown(lacking, reflected(box)), ONLY_FIRST)


def spans_at(slabs, x):
    """Returns the spans of a form in the column x."""
    for x1, x2, spans in slabs:
        if x1 <= x < x2:
            return spans
    return ()


def has_square(slabs, x, y):
    """Returns whether a form has the square (x, y)."""
    return any([y1 <= y < y2 for y1, y2 in spans_at(slabs, x)])

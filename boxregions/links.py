"""Which boxes of a form are joined."""


def box_links(boxes, corners):
    """Returns, for each box of a form, a list of the numbers of the boxes joined to it.

    Joined means by edges, with corners by edges or corners.
    """
    starting = {}
    for at, box in enumerate(boxes):
        starting.setdefault(box[0], []).append(at)
    links = [[] for _ in boxes]
    for at, box in enumerate(boxes):
        # Boxes of a form that are not side by side in x have at least one square between them.
        for other in starting.get(box[2], []):
            low = max(box[1], boxes[other][1])
            high = min(box[3], boxes[other][3])
            if low < high or (corners and low == high):
                links[at].append(other)
                links[other].append(at)
    return links

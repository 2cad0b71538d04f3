"""Greatest matchings between two sides, and greatest choices without linked ones.

links is a list: for each number on the left, a list of the numbers on the
right that it is linked with.
"""


def greatest_matching(links, many):
    """Returns, for each of so many on the right, the one on the left that it is paired with, or None.

    Only linked ones are paired, each at most once, in as many pairs as possible.
    """
    owners = [None] * many
    for left in range(len(links)):
        _pair(links, owners, left)
    return owners


def greatest_choice(links, owners):
    """Returns the lists of the left and the right numbers of a greatest choice without linked ones.

    owners is a greatest matching: the choice has one of each pair, and all that are in no pair.
    """
    waiting = [left for left in range(len(links)) if left not in owners]
    chosen = list(waiting)
    refused = set()
    while waiting:
        left = waiting.pop()
        for right in links[left]:
            if right not in refused:
                refused.add(right)
                # It has an owner: otherwise one more pair could be made.
                waiting.append(owners[right])
                chosen.append(owners[right])
    return (chosen, [right for right in range(len(owners)) if right not in refused])


def _pair(links, owners, start):
    """Pairs one more on the left, if that can be done by pairing others anew."""
    came = {}
    waiting = [start]
    while waiting:
        left = waiting.pop()
        for right in links[left]:
            if right not in came:
                came[right] = left
                if owners[right] is None:
                    _pair_along(owners, came, right)
                    return
                waiting.append(owners[right])


def _pair_along(owners, came, last):
    """Pairs each on the right with the one on the left from which it was come to, from the last one back."""
    right = last
    while right is not None:
        left = came[right]
        before = owners.index(left) if left in owners else None
        owners[right] = left
        right = before

"""Least crossings of sets of wishes, and the trees that show them."""

from wishdues.houses import wishes_losses
from wishdues.losstrees import lesser_shown


def first_uncrossed(sets, taken):
    """The number of the first set of which no wish is taken, or None."""
    for at, places in enumerate(sets):
        if not any([place in taken for place in places]):
            return at
    return None


def crossed_from(house, sets, taken, left_out, best):
    """The best (losses, crossing) so far, and a tree from these decisions on that shows no less."""
    losses = wishes_losses(house, taken)
    if best is not None and losses >= best[0]:
        return best, ("taken",)
    at = first_uncrossed(sets, taken)
    if at is None:
        return (losses, tuple(sorted(taken))), ("taken",)
    undecided = [place for place in sets[at] if place not in left_out]
    if len(undecided) == 0:
        return best, ("bare", at)
    place = undecided[0]
    best, within = crossed_from(house, sets, taken + (place,), left_out, best)
    best, without = crossed_from(house, sets, taken, left_out + (place,), best)
    return best, ("part", place, within, without)


def least_crossing(house, sets):
    """The losses of a least crossing of these sets, the crossing, and a tree that shows just these losses."""
    best, tree = crossed_from(house, sets, (), (), None)
    return best[0], best[1], tree


def bare_shows(sets, left_out, at):
    """What a set told as bare shows."""
    if not 0 <= at < len(sets) or not all([place in left_out for place in sets[at]]):
        return None
    return ("never",)


def shown_beyond(house, sets, taken, left_out, tree):
    """What a tree for a crossing shows, begun with these decisions."""
    if tree[0] == "taken":
        return ("least", wishes_losses(house, taken))
    if tree[0] == "bare":
        return bare_shows(sets, left_out, tree[1])
    if tree[0] != "part":
        return None
    place = tree[1]
    if not 0 <= place < len(house[3]) or place in taken or place in left_out:
        return None
    within = shown_beyond(house, sets, taken + (place,), left_out, tree[2])
    without = shown_beyond(house, sets, taken, left_out + (place,), tree[3])
    return lesser_shown(within, without)


def crossing_shows(house, sets, tree):
    """What a tree of the told form shows: ("least", losses), ("never",) or None."""
    return shown_beyond(house, sets, (), (), tree)

"""Trees of losses: one paper that no setting loses less."""

from wishdues.houses import best_settings, house_losses, wishes_losses
from wishdues.rules import is_rising, rules_sure
from wishdues.trees import first_broken, with_name


def lesser_shown(one, other):
    """The lesser of what both sides of a part show, or None where one shows that."""
    if one is None or other is None:
        return None
    # "least" stands ahead of "never" in Python's order, as it is less here.
    return min(one, other)


def lost_shows(house, partial, places):
    """What some wishes told as lost show, by a partial setting."""
    n, rules, musts, wishes = house
    if not is_rising(places) or not all([0 <= place < len(wishes) for place in places]):
        return None
    sure = rules_sure(rules, partial)
    if not all([sure[wishes[place][0]] == "broken" for place in places]):
        return None
    return ("least", wishes_losses(house, places))


def must_shows(house, partial, number):
    """What a must told as broken shows, by a partial setting."""
    n, rules, musts, wishes = house
    if number not in musts or rules_sure(rules, partial)[number] != "broken":
        return None
    return ("never",)


def shown_from(house, partial, tree):
    """What a tree of losses shows, begun with a partial setting."""
    if tree[0] == "must":
        return must_shows(house, partial, tree[1])
    if tree[0] == "lost":
        return lost_shows(house, partial, tree[1])
    if tree[0] != "part":
        return None
    name = tree[1]
    if not 1 <= name <= len(partial) or partial[name - 1] is not None:
        return None
    no = shown_from(house, with_name(partial, name, 0), tree[2])
    yes = shown_from(house, with_name(partial, name, 1), tree[3])
    return lesser_shown(no, yes)


def tree_shows(house, tree):
    """What a tree of the told form shows: ("least", losses), ("never",) or None."""
    return shown_from(house, (None,) * house[0], tree)


def sure_lost(house, partial):
    """The rising tuple of the wishes whose rules are broken by a partial setting."""
    n, rules, musts, wishes = house
    sure = rules_sure(rules, partial)
    return tuple([place for place, wish in enumerate(wishes) if sure[wish[0]] == "broken"])


def tree_from(house, least, begun):
    """A tree of losses that shows no less than the least, or never where that is None, from these marks on."""
    n, rules, musts, wishes = house
    partial = begun + (None,) * (n - len(begun))
    number = first_broken(rules, musts, partial)
    if number is not None:
        return ("must", number)
    places = sure_lost(house, partial)
    if least is not None and wishes_losses(house, places) >= least:
        return ("lost", places)
    no = tree_from(house, least, begun + (0,))
    yes = tree_from(house, least, begun + (1,))
    return ("part", len(begun) + 1, no, yes)


def loss_tree(house):
    """The least of the best settings with its losses and a tree that shows them, or a tree that shows never."""
    settings = best_settings(house)
    if len(settings) == 0:
        return ("never", tree_from(house, None, ()))
    losses = house_losses(house, settings[0])
    return ("least", losses, settings[0], tree_from(house, losses, ()))

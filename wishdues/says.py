"""What the best settings of a house say of its names and wishes."""

from wishdues.errors import NoPeace
from wishdues.houses import best_settings
from wishdues.losstrees import loss_tree
from wishdues.rules import keeps_all


def some_best(house):
    """The best settings of a house whose musts do not clash."""
    settings = best_settings(house)
    if len(settings) == 0:
        raise NoPeace("the musts clash")
    return settings


def best_many(house):
    """How many best settings a house has."""
    return len(some_best(house))


def tree_with_must(house, rule):
    """A tree of losses of the house with one rule more, which is a must too."""
    n, rules, musts, wishes = house
    return loss_tree((n, [*rules, rule], (*musts, len(rules)), wishes))[-1]


def name_said(house, settings, name):
    """What the best settings say of a name."""
    yes = [setting for setting in settings if setting[name - 1] == 1]
    no = [setting for setting in settings if setting[name - 1] == 0]
    if len(no) == 0:
        return ("yes", yes[0], tree_with_must(house, ("or", (-name,))))
    if len(yes) == 0:
        return ("no", no[0], tree_with_must(house, ("or", (name,))))
    return ("both", no[0], yes[0])


def name_says(house):
    """For each name what the best settings say of it."""
    settings = some_best(house)
    return [name_said(house, settings, name) for name in range(1, house[0] + 1)]


def wish_said(house, settings, number):
    """What the best settings say of a wish of a rule."""
    kept = [setting for setting in settings if keeps_all(house[1], [number], setting)]
    broken = [setting for setting in settings if not keeps_all(house[1], [number], setting)]
    if len(broken) == 0:
        return ("all", kept[0], tree_with_must(house, ("not", number)))
    if len(kept) == 0:
        return ("none", broken[0], tree_with_must(house, ("few", 0, (number,))))
    return ("some", kept[0], broken[0])


def wish_says(house):
    """For each wish what the best settings say of it."""
    settings = some_best(house)
    return [wish_said(house, settings, number) for number, rank, weight in house[3]]

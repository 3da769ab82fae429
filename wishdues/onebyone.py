"""Clashes of wishes told one by one, with the least crossing of all that are told."""

from wishdues.clashes import clash_tree, kept_in_turn, kept_table, least_part
from wishdues.crossings import crossing_shows, least_crossing
from wishdues.houses import house_losses
from wishdues.rules import has_twice, is_rising, setting_right
from wishdues.trees import together, tree_right


def clash_numbers(house, places):
    """The rising tuple of the musts and the rules of these wishes."""
    n, rules, musts, wishes = house
    return together(musts, [wishes[place][0] for place in places])


def sets_of(rows):
    """The sets of wishes of these rows."""
    return [places for places, tree in rows]


def others_kept(house, table, crossing):
    """A setting that keeps the rules of all wishes but a crossing's, or a row of wishes that clash among these."""
    n, rules, musts, wishes = house
    others = [place for place in range(len(wishes)) if place not in crossing]
    order = [wishes[place][0] for place in others]
    many, left = kept_in_turn(table, order)
    if many == len(order):
        return left[0][0], None
    # Of several wishes of one rule the first one stands for it; the others come with rows of their own.
    places = tuple(sorted([others[order.index(number)] for number in least_part(table, order)]))
    return None, (places, clash_tree(n, rules, clash_numbers(house, places)))


def told_beyond(house, rows):
    """What told_clashes tells, the rows beginning with these, which are known to clash."""
    n, rules, musts, wishes = house
    table = kept_table(n, rules, musts)
    if len(table) == 0:
        return ("never", clash_tree(n, rules, musts))
    told = list(rows)
    while True:
        losses, crossing, tree = least_crossing(house, sets_of(told))
        setting, row = others_kept(house, table, crossing)
        if row is None:
            return ("best", losses, setting, told, tree)
        told.append(row)


def told_clashes(house):
    """A best setting with rows of clashing wishes by which none loses less, or a tree by which the musts clash."""
    return told_beyond(house, [])


def row_right(house, row):
    """Whether a row of the told form has some wishes, and a tree by which they clash with the musts."""
    n, rules, musts, wishes = house
    places, tree = row
    if len(places) == 0 or not is_rising(places) or not all([0 <= place < len(wishes) for place in places]):
        return False
    return tree_right(n, rules, clash_numbers(house, places), tree)


def best_right(house, told):
    """Whether a tuple of the form of a best setting is right."""
    n, rules, musts, wishes = house
    word, losses, setting, rows, tree = told
    if not setting_right(n, rules, musts, setting) or house_losses(house, setting) != losses:
        return False
    if not all([row_right(house, row) for row in rows]):
        return False
    sets = sets_of(rows)
    return not has_twice(sets) and crossing_shows(house, sets, tree) == ("least", losses)


def told_right(house, told):
    """Whether a tuple of one of both forms that told_clashes tells is right."""
    n, rules, musts, wishes = house
    if told[0] == "never":
        return tree_right(n, rules, musts, told[1])
    return best_right(house, told)


def told_bounds(house, rows):
    """The losses of least crossings of the first none, one, two rows and so on up to all."""
    sets = sets_of(rows)
    return [least_crossing(house, sets[:many])[0] for many in range(len(sets) + 1)]

"""Least clashes and greatest peaces of rules with musts."""

from wishdues.errors import NoClash, NoPeace
from wishdues.rules import all_fillings, is_rising, rules_kept, setting_right
from wishdues.trees import kept_together, together, tree_right


def keeping(table, number):
    """The rows of a table whose settings keep a rule."""
    return [row for row in table if row[1][number]]


def kept_table(n, rules, musts):
    """The rising list of (setting, what it keeps) for all settings that keep the musts."""
    table = [(setting, rules_kept(rules, setting)) for setting in all_fillings((None,) * n)]
    for number in musts:
        table = keeping(table, number)
    return table


def kept_in_turn(table, order):
    """How many rules of an order, from its first on, one row keeps, and the rows that keep these."""
    for at, number in enumerate(order):
        left = keeping(table, number)
        if len(left) == 0:
            return at, table
        table = left
    return len(order), table


def least_part(table, order):
    """The rules of a least clash in an order that no row keeps, each with a setting that keeps the others."""
    part = {}
    while len(table) > 0:
        # Without the rule at which it breaks off those ahead of it are kept, so it is needed; with it they
        # clash already, so each next one is found ahead of it and none behind it is needed.
        many, left = kept_in_turn(table, order)
        part[order[many]] = left[0][0]
        table = keeping(table, order[many])
    return part


def clash_tree(n, rules, numbers):
    """A tree by which rules clash that are known to clash."""
    return kept_together(n, rules, numbers)[1]


def least_clash(n, rules, musts, numbers):
    """A least clash of further rules with the musts: its rules, a tree and a setting without each."""
    table = kept_table(n, rules, musts)
    if len(table) > 0 and kept_in_turn(table, numbers)[0] == len(numbers):
        raise NoClash("a setting keeps all of these rules")
    settings = least_part(table, numbers)
    part = tuple(sorted(settings))
    return part, clash_tree(n, rules, together(musts, part)), [settings[number] for number in part]


def is_part(part, numbers):
    """Whether a tuple of whole numbers is a rising one of some of these numbers."""
    return is_rising(part) and all([number in numbers for number in part])


def others_of(part, number):
    """The numbers of a part without one of them."""
    return [other for other in part if other != number]


def clash_right(n, rules, musts, numbers, told):
    """Whether a triple of the told form is a least clash."""
    part, tree, settings = told
    if not is_part(part, numbers) or len(settings) != len(part):
        return False
    for number, setting in zip(part, settings):
        if not setting_right(n, rules, together(musts, others_of(part, number)), setting):
            return False
    return tree_right(n, rules, together(musts, part), tree)


def greatest_peace(n, rules, musts, numbers):
    """A greatest peace of further rules with the musts: its rules, a setting and a tree for each other one."""
    table = kept_table(n, rules, musts)
    if len(table) == 0:
        raise NoPeace("the musts clash")
    part = ()
    for number in numbers:
        left = keeping(table, number)
        if len(left) > 0:
            table = left
            part += (number,)
    trees = [clash_tree(n, rules, together(musts, [*part, number])) for number in numbers if number not in part]
    return part, table[0][0], trees


def peace_right(n, rules, musts, numbers, told):
    """Whether a triple of the told form is a greatest peace."""
    part, setting, trees = told
    others = [number for number in numbers if number not in part]
    if not is_part(part, numbers) or len(trees) != len(others):
        return False
    if not setting_right(n, rules, together(musts, part), setting):
        return False
    for number, tree in zip(others, trees):
        if not tree_right(n, rules, together(musts, [*part, number]), tree):
            return False
    return True

"""Dues paid, clash by clash, until all rules that have dues can be kept."""

from wishdues.clashes import clash_tree, kept_in_turn, kept_table, least_part
from wishdues.rules import kept_beyond, setting_right
from wishdues.trees import together, tree_right
from wishdues.turning import can_turn, turned


def due_numbers(dues):
    """The numbers of the rules that have dues."""
    return [number for number, weight in dues]


def heaviest_first(dues):
    """The numbers of the rules that have dues, from the greatest due on."""
    # Then the last one of the fewest that clash has the least due of each clash among them, and it is gone
    # behind the turning: so the steps are few, however great the dues.
    return due_numbers(sorted(dues, key=lambda due: (-due[1], due[0])))


def paid_dues(n, rules, musts, dues):
    """A setting that loses least by the dues, with steps that pay just that, or a tree by which the musts clash."""
    table = kept_table(n, rules, musts)
    if len(table) == 0:
        return ("never", clash_tree(n, rules, musts))
    total, steps = 0, []
    while True:
        order = heaviest_first(dues)
        many, left = kept_in_turn(table, order)
        if many == len(order):
            return ("paid", total, steps, left[0][0])
        numbers = tuple(sorted(least_part(table, order)))
        steps.append((numbers, clash_tree(n, rules, together(musts, numbers))))
        paid, rules, dues = turned(rules, dues, numbers)
        total += paid
        table = [(setting, kept_beyond(rules, kept, setting)) for setting, kept in table]


def left_by(n, rules, musts, dues, steps):
    """What is paid by steps, and the rules and dues behind them, or None where one of them isn't right."""
    total = 0
    for numbers, tree in steps:
        if not can_turn(rules, dues, numbers) or not tree_right(n, rules, together(musts, numbers), tree):
            return None
        paid, rules, dues = turned(rules, dues, numbers)
        total += paid
    return total, rules, dues


def steps_right(n, rules, musts, dues, told):
    """Whether a tuple of the form of paid dues is right."""
    word, told_paid, steps, setting = told
    left = left_by(n, rules, musts, dues, steps)
    if left is None:
        return False
    paid, rules, dues = left
    return paid == told_paid and setting_right(n, rules, together(musts, due_numbers(dues)), setting)


def paid_right(n, rules, musts, dues, told):
    """Whether a tuple of one of both forms that paid_dues tells is right."""
    if told[0] == "never":
        return tree_right(n, rules, musts, told[1])
    return steps_right(n, rules, musts, dues, told)

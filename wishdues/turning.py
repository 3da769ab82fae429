"""Dues of rules, and sets of rules paid and turned into counts."""

from wishdues.errors import NoDue
from wishdues.rules import is_rising, is_whole, rules_kept


def dues_loss(rules, dues, setting):
    """What a setting loses by dues."""
    kept = rules_kept(rules, setting)
    return sum([weight for number, weight in dues if not kept[number]])


def can_turn(rules, dues, thing):
    """Whether a thing is a rising tuple of one number or more, each with a due."""
    if not isinstance(thing, tuple) or len(thing) == 0:
        return False
    if not all([is_whole(number, 0, len(rules) - 1) for number in thing]):
        return False
    due = [number for number, weight in dues]
    return is_rising(thing) and all([number in due for number in thing])


def turned(rules, dues, numbers):
    """What is paid for a set that can be turned, and the rules and dues behind that."""
    paid = min([weight for number, weight in dues if number in numbers])
    lessened = [(number, weight - paid if number in numbers else weight) for number, weight in dues]
    counts = [("few", most, numbers) for most in range(1, len(numbers))]
    left = [(number, weight) for number, weight in lessened if weight > 0]
    new = [(len(rules) + at, paid) for at in range(len(counts))]
    return paid, [*rules, *counts], [*left, *new]


def turned_dues(rules, dues, numbers):
    """What is paid for a set of rules, and the rules and dues behind its turning."""
    if not can_turn(rules, dues, numbers):
        raise NoDue(0)
    return turned(rules, dues, numbers)


def dues_after(rules, dues, steps):
    """What is paid in all by steps, and the rules and dues behind them."""
    total, rules, dues = 0, list(rules), list(dues)
    for at, step in enumerate(steps):
        if not can_turn(rules, dues, step[0]):
            raise NoDue(at)
        paid, rules, dues = turned(rules, dues, step[0])
        total += paid
    return total, rules, dues

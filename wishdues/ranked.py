"""Houses paid rank by rank, and houses made flat."""

from wishdues.houses import greatest_rank
from wishdues.paying import due_numbers, left_by, paid_dues
from wishdues.rules import setting_right
from wishdues.trees import kept_together, together, tree_right
from wishdues.turning import dues_after


def rank_dues(wishes, rank):
    """The dues of a rank: by rules, what its wishes weigh."""
    dues = {}
    for number, own_rank, weight in wishes:
        if own_rank == rank:
            dues[number] = dues.get(number, 0) + weight
    return sorted(dues.items())


def with_left(musts, dues):
    """The musts and the rules that have dues left, which are musts of the ranks behind."""
    return together(musts, due_numbers(dues))


def ranked_best(house):
    """A best setting with steps that pay its losses rank by rank, or a tree by which the musts clash."""
    n, rules, musts, wishes = house
    word, told = kept_together(n, rules, musts)
    if word == "clash":
        return ("never", told)
    # Without wishes there is no rank, and each setting that keeps the musts will do.
    losses, setting, rows = (), told, []
    for rank in range(1, greatest_rank(wishes) + 1):
        dues = rank_dues(wishes, rank)
        word, paid, steps, setting = paid_dues(n, rules, musts, dues)
        paid, rules, dues = dues_after(rules, dues, steps)
        musts = with_left(musts, dues)
        losses += (paid,)
        rows.append(steps)
    return ("best", losses, setting, rows)


def rows_right(house, told):
    """Whether a tuple of the form of a best setting is right."""
    n, rules, musts, wishes = house
    word, told_losses, setting, rows = told
    if len(rows) != greatest_rank(wishes):
        return False
    losses = ()
    for at, steps in enumerate(rows):
        left = left_by(n, rules, musts, rank_dues(wishes, at + 1), steps)
        if left is None:
            return False
        paid, rules, dues = left
        musts = with_left(musts, dues)
        losses += (paid,)
    return losses == told_losses and setting_right(n, rules, musts, setting)


def ranked_right(house, told):
    """Whether a tuple of one of both forms that ranked_best tells is right."""
    n, rules, musts, wishes = house
    if told[0] == "never":
        return tree_right(n, rules, musts, told[1])
    return rows_right(house, told)


def best_rules(house, rows):
    """The rules and musts behind the last rank, which just the best settings keep."""
    n, rules, musts, wishes = house
    rules = list(rules)
    for at, steps in enumerate(rows):
        paid, rules, dues = dues_after(rules, rank_dues(wishes, at + 1), steps)
        musts = with_left(musts, dues)
    return rules, musts


def rank_factors(wishes):
    """By ranks, factors by which one of a rank weighs more than all of the ranks behind together."""
    factors, behind = {}, 0
    for rank in range(greatest_rank(wishes), 0, -1):
        factors[rank] = behind + 1
        behind += sum([weight * factors[rank] for number, own_rank, weight in wishes if own_rank == rank])
    return factors


def flat_house(house):
    """The house with all wishes in one rank, weighed so that its best settings stay."""
    n, rules, musts, wishes = house
    factors = rank_factors(wishes)
    return n, list(rules), musts, [(number, 1, weight * factors[rank]) for number, rank, weight in wishes]

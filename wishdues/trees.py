"""Clashes of rules, and the trees of cases that show them."""

from wishdues.rules import all_fillings, keeps_all, rules_sure


def together(numbers, others):
    """The rising tuple of the numbers of both rows, each once."""
    return tuple(sorted(set([*numbers, *others])))


def with_name(partial, name, mark):
    """The partial setting with one name put to a mark as well."""
    return partial[:name - 1] + (mark,) + partial[name:]


def end_right(rules, numbers, partial, number):
    """Whether a number is one of these rules' that is broken by now."""
    if number not in numbers or not 0 <= number < len(rules):
        return False
    return rules_sure(rules, partial)[number] == "broken"


def right_from(rules, numbers, partial, tree):
    """Whether a tree is one for these rules, begun with a partial setting."""
    if tree[0] == "broken":
        return end_right(rules, numbers, partial, tree[1])
    name = tree[1]
    if not 1 <= name <= len(partial) or partial[name - 1] is not None:
        return False
    if not right_from(rules, numbers, with_name(partial, name, 0), tree[2]):
        return False
    return right_from(rules, numbers, with_name(partial, name, 1), tree[3])


def tree_right(n, rules, numbers, tree):
    """Whether a tree of the told form is one by which these rules clash."""
    return right_from(rules, numbers, (None,) * n, tree)


def first_broken(rules, numbers, partial):
    """The first of these rules that is broken by a partial setting, or None."""
    sure = rules_sure(rules, partial)
    for number in numbers:
        if sure[number] == "broken":
            return number
    return None


def kept_from(n, rules, numbers, begun):
    """What kept_together tells, of the settings that begin with these marks."""
    number = first_broken(rules, numbers, begun + (None,) * (n - len(begun)))
    if number is not None:
        return ("clash", ("broken", number))
    if len(begun) == n:
        return ("kept", begun)
    # No is sought ahead of yes: so the first setting that is found is the least.
    no = kept_from(n, rules, numbers, begun + (0,))
    if no[0] == "kept":
        return no
    yes = kept_from(n, rules, numbers, begun + (1,))
    if yes[0] == "kept":
        return yes
    return ("clash", ("part", len(begun) + 1, no[1], yes[1]))


def kept_together(n, rules, numbers):
    """The least setting that keeps all of these rules, or a tree by which they clash."""
    return kept_from(n, rules, numbers, ())


def kept_settings(n, rules, numbers):
    """The rising list of all settings that keep all of these rules."""
    return [setting for setting in all_fillings((None,) * n) if keeps_all(rules, numbers, setting)]


def told_broken(tree):
    """The numbers that a tree tells as broken, as they stand in it."""
    if tree[0] == "broken":
        return [tree[1]]
    return told_broken(tree[2]) + told_broken(tree[3])


def tree_ends(tree):
    """The rising tuple of the numbers that a tree tells as broken."""
    return tuple(sorted(set(told_broken(tree))))

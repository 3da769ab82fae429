"""What several tests need: reckonings of their own, after the document's words, and made-up rules."""

import itertools
import random

from wishdues.turning import turned_dues


def kept_by(rules, number, setting):
    """Whether a setting keeps a rule, straight after 1.2."""
    rule = rules[number]
    if rule[0] == "or":
        return any(setting[abs(word) - 1] == int(word > 0) for word in rule[1])
    if rule[0] == "few":
        return sum(not kept_by(rules, ahead, setting) for ahead in rule[2]) <= rule[1]
    return not kept_by(rules, rule[1], setting)


def sure_by(rules, number, partial):
    """What a rule is by a partial setting, straight after 1.4."""
    rule = rules[number]
    if rule[0] == "or":
        marks = {(partial[abs(word) - 1], int(word > 0)) for word in rule[1]}
        if any(mark == right for mark, right in marks):
            return "kept"
        return "open" if any(mark is None for mark, right in marks) else "broken"
    if rule[0] == "few":
        marks = [sure_by(rules, ahead, partial) for ahead in rule[2]]
        if sum(mark == "broken" for mark in marks) > rule[1]:
            return "broken"
        return "kept" if sum(mark != "kept" for mark in marks) <= rule[1] else "open"
    return {"kept": "broken", "broken": "kept", "open": "open"}[sure_by(rules, rule[1], partial)]


def tree_by(rules, numbers, partial, tree):
    """Whether a tree is right from a partial setting (a dict of names) on, straight after 2.1."""
    n = len(partial)
    if tree[0] == "broken":
        marks = tuple(partial[name] for name in range(1, n + 1))
        return tree[1] in numbers and sure_by(rules, tree[1], marks) == "broken"
    _, name, no, yes = tree
    if name not in partial or partial[name] is not None:
        return False
    return (tree_by(rules, numbers, {**partial, name: 0}, no)
            and tree_by(rules, numbers, {**partial, name: 1}, yes))


def open_names(n):
    return {name: None for name in range(1, n + 1)}


def settings_of(n):
    return list(itertools.product((0, 1), repeat=n))


def partials_of(n):
    return list(itertools.product((0, 1, None), repeat=n))


def settings_filling(partial):
    """All settings that fill a partial one, sieved out of all settings there are."""
    return [setting for setting in settings_of(len(partial))
            if all(mark is None or mark == put for mark, put in zip(partial, setting))]


def made_up_row(chance, n, at):
    """A row that is a rule of n names at a place, its words or numbers in any order."""
    kind = chance.choice(("or", "or", "few", "not")) if at else chance.choice(("or", "few"))
    if kind == "or":
        names = chance.sample(range(1, n + 1), chance.randint(0, min(n, 3)))
        return ("or", tuple(chance.choice((name, -name)) for name in names))
    if kind == "few":
        numbers = chance.sample(range(at), chance.randint(0, min(at, 4)))
        return ("few", chance.randint(0, 3), tuple(numbers))
    return ("not", chance.randrange(at))


def made_up_lists(seed, many, most_names=4, most_rules=7):
    """Some (n, rows), the same for the same seed."""
    chance = random.Random(seed)
    told = []
    for _ in range(many):
        n = chance.randint(0, most_names)
        told.append((n, [made_up_row(chance, n, at) for at in range(chance.randint(0, most_rules))]))
    return told


def settings_keeping(n, rules, numbers):
    """All settings that keep all of these rules, gone through one by one."""
    return [setting for setting in settings_of(n) if all(kept_by(rules, number, setting) for number in numbers)]


def weighed_by(house, places):
    """What some wishes weigh together, rank by rank, straight after 4.2."""
    wishes = house[3]
    return tuple(sum(wishes[place][2] for place in places if wishes[place][1] == rank)
                 for rank in range(1, max([wish[1] for wish in wishes], default=0) + 1))


def lost_by(house, setting):
    """The places of the wishes whose rules a setting breaks."""
    return tuple(place for place, wish in enumerate(house[3]) if not kept_by(house[1], wish[0], setting))


def least_by(house):
    """The least losses of all settings that keep the musts, or None where there is none."""
    settings = settings_keeping(house[0], house[1], house[2])
    return min([weighed_by(house, lost_by(house, setting)) for setting in settings], default=None)


def made_up_parts(chance, many, most_musts):
    """Some musts and further ones, two rising tuples without a common number."""
    musts = chance.sample(range(many), chance.randint(0, min(many, most_musts)))
    others = [number for number in range(many) if number not in musts and chance.random() < 0.8]
    return tuple(sorted(musts)), tuple(others)


def made_up_houses(seed, many, most_names=4, most_rules=7, most_wishes=8, most_weight=4):
    """Some (n, rows, musts, wishes), the same for the same seed."""
    chance = random.Random(seed)
    told = []
    for n, rows in made_up_lists(seed, many, most_names, most_rules):
        musts = chance.sample(range(len(rows)), chance.randint(0, min(len(rows), 3)))
        wishes = [(chance.randrange(len(rows)), chance.randint(1, 4), chance.randint(1, most_weight))
                  for _ in range(chance.randint(0, most_wishes) if rows else 0)]
        told.append((n, rows, musts, wishes))
    return told


def owed_by(rules, dues, setting):
    """What a setting loses by dues, straight after 7.1."""
    return sum(weight for number, weight in dues if not kept_by(rules, number, setting))


def made_up_dues(chance, many, most_weight):
    """Dues of some of so many rules."""
    return [(number, chance.randint(1, most_weight)) for number in range(many) if chance.random() < 0.8]


def gone_by(n, rules, musts, dues, steps):
    """(paid, rules, dues) behind steps, or None where one isn't right, after 7.4, turning being judged elsewhere."""
    total = 0
    for some, tree in steps:
        if not some or list(some) != sorted(set(some)) or not set(some) <= set(dict(dues)):
            return None
        if not tree_by(rules, {*musts, *some}, open_names(n), tree):
            return None
        paid, rules, dues = turned_dues(rules, dues, some)
        total += paid
    return total, rules, dues


def best_by(house):
    """All settings that keep the musts and lose least, gone through one by one."""
    least = least_by(house)
    return [setting for setting in settings_keeping(house[0], house[1], house[2])
            if weighed_by(house, lost_by(house, setting)) == least]


def poured_loss(pot, setting):
    """What a setting loses by a pot, straight after 9.1."""
    return sum(weight for words, weight in pot if not any(setting[abs(word) - 1] == int(word > 0) for word in words))


def made_up_words(chance, n, most):
    """A rising tuple of words of unlike names."""
    names = chance.sample(range(1, n + 1), chance.randint(0, min(n, most)))
    return tuple(sorted(chance.choice((name, -name)) for name in names))


def made_up_pot(chance, n, many, most_weight):
    """A pot of at most so many tuples."""
    words = {made_up_words(chance, n, chance.randint(1, n)) or (chance.choice((-n, n)),) for _ in range(many)}
    words |= {()} if chance.random() < 0.3 and len(words) < many else set()
    return [(some, chance.randint(1, most_weight)) for some in sorted(words)]

"""Names poured out of pots, the least loss by a pot, and the pot of a house of either-ors."""

from wishdues.errors import NoPour, NotPlain
from wishdues.pots import made_pot, pot_after, pot_loss, poured, pours_now
from wishdues.ranked import flat_house
from wishdues.rules import all_fillings, setting_right
from wishdues.trees import together


def fewest_words(pours):
    """The first of some two that have the fewest words together."""
    return min(pours, key=lambda pour: len(together(pour[0], pour[1])))


def name_poured(pot, name):
    """Steps by which a name is poured out of a pot."""
    steps = []
    while True:
        pours = pours_now(pot, name)
        if len(pours) == 0:
            return steps
        # What comes with the name has more words, so the steps are few, however great the weights.
        one, other = fewest_words(pours)
        steps.append((one, other))
        pot = poured(pot, one, other)


def names_of(words):
    """The names of some words."""
    return [abs(word) for word in words]


def empty_weight(pot):
    """What the empty words of a pot weigh, 0 where they aren't there."""
    return sum([weight for words, weight in pot if len(words) == 0])


def pot_answer(n, pot):
    """The least loss by a pot, steps that show it and a setting that loses just that."""
    steps, left = [], pot
    for name in range(1, n + 1):
        own_steps = name_poured(left, name)
        steps += own_steps
        # What has a name that is poured out can be kept whatever the other names are, so it is set aside.
        left = [pair for pair in pot_after(left, own_steps) if name not in names_of(pair[0])]
    loss = empty_weight(left)
    settings = [setting for setting in all_fillings((None,) * n) if pot_loss(pot, setting) == loss]
    return loss, steps, settings[0]


def answer_right(n, pot, told):
    """Whether a triple of the told form is an answer of a pot."""
    loss, steps, setting = told
    try:
        left = pot_after(pot, steps)
    except NoPour:
        return False
    return empty_weight(left) == loss and setting_right(n, [], [], setting) and pot_loss(pot, setting) == loss


def is_plain(house):
    """Whether all musts and wishes of a house are of either-ors."""
    n, rules, musts, wishes = house
    numbers = together(musts, [number for number, rank, weight in wishes])
    return all([rules[number][0] == "or" for number in numbers])


def house_pot(house):
    """The pot of a house of either-ors, and the heavy weight of its musts."""
    if not is_plain(house):
        raise NotPlain("a must or a wish is of no either-or")
    n, rules, musts, wishes = flat_house(house)
    wished = [(rules[number][1], weight) for number, rank, weight in wishes]
    heavy = 1 + sum([weight for words, weight in wished])
    return made_pot(wished + [(rules[number][1], heavy) for number in musts]), heavy

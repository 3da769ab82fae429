"""Pots of weighed either-ors, and how two of them are poured."""

from wishdues.errors import NoPour
from wishdues.rules import word_right
from wishdues.trees import together


def made_pot(pairs):
    """The pot of these (words, weight), the weights of the same words added."""
    weights = {}
    for row, weight in pairs:
        words = tuple(sorted(row))
        weights[words] = weights.get(words, 0) + weight
    return sorted(weights.items())


def pot_loss(pot, setting):
    """What a setting loses by a pot."""
    return sum([weight for words, weight in pot if not any([word_right(word, setting) for word in words])])


def opposite_words(one, other):
    """The words of the one whose opposites the other has."""
    return [word for word in one if -word in other]


def can_pour(pot, one, other):
    """Whether two are in a pot and can be poured."""
    words = [own for own, weight in pot]
    if one not in words or other not in words:
        return False
    opposite = opposite_words(one, other)
    return len(opposite) == 1 and opposite[0] > 0


def without(words, word):
    """The words but for one of them."""
    return tuple([own for own in words if own != word])


def stairs(words, others):
    """Of the others that aren't among the words, one behind the other: the words, those ahead of it and its no."""
    told = []
    for other in others:
        if other not in words:
            told.append(together(words, [-other]))
            words = together(words, [other])
    return told


def poured(pot, one, other):
    """The pot behind the pouring of two that can be poured."""
    name = opposite_words(one, other)[0]
    weights = dict(pot)
    less = min(weights[one], weights[other])
    first, second = without(one, name), without(other, -name)
    come = [together(first, second)] + stairs(one, second) + stairs(other, first)
    lessened = [(words, weight - less if words in (one, other) else weight) for words, weight in pot]
    left = [(words, weight) for words, weight in lessened if weight > 0]
    return made_pot(left + [(words, less) for words in come])


def poured_pot(pot, one, other):
    """The pot behind the pouring of two, the one with the name first."""
    if not can_pour(pot, one, other):
        raise NoPour(0)
    return poured(pot, one, other)


def pours_now(pot, name):
    """The rising list of all two that can be poured at a name."""
    words = [own for own, weight in pot]
    return [(one, other) for one in words for other in words if opposite_words(one, other) == [name]]


def pot_after(pot, steps):
    """The pot behind steps, one poured behind the other."""
    pot = list(pot)
    for at, step in enumerate(steps):
        one, other = step
        if not can_pour(pot, one, other):
            raise NoPour(at)
        pot = poured(pot, one, other)
    return pot

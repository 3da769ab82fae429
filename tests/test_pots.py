"""9.1 to 9.3 but for whole names poured out, with 0.2, 0.3 and 0.6 so far as they reach pots."""

import copy
import itertools
import random
import unittest

from tests.helpers import made_up_pot, made_up_words, poured_loss, settings_of
from wishdues.errors import NoPour
from wishdues.pots import made_pot, pot_after, pot_loss, poured_pot, pours_now

GREAT = int("9" * 60)
POT = [((), 2), ((-1,), 3), ((-1, 3, 4), 7), ((1, 2), 5), ((2, 3), 1)]


def poured_by(pot, one, other):
    """The pot behind a pouring, straight after 9.2, or None where the two cannot be poured."""
    weights = dict(pot)
    opposite = [name for name in range(1, 9) if {name, -name} <= {*one, *other}]
    if one not in weights or other not in weights or len(opposite) != 1 or opposite[0] not in one:
        return None
    name = opposite[0]
    less = min(weights[one], weights[other])
    first, second = set(one) - {name}, set(other) - {-name}
    come = [first | second]
    for own, mine, others in ((name, first, second), (-name, second, first)):
        new = sorted(others - mine)
        come += [{own, *mine, *new[:at], -new[at]} for at in range(len(new))]
    weights[one] -= less
    weights[other] -= less
    for words in come:
        words = tuple(sorted(words))
        weights[words] = weights.get(words, 0) + less
    return sorted((words, weight) for words, weight in weights.items() if weight)


class MadePot(unittest.TestCase):

    def test_any_order(self):
        for many in range(4):
            for pairs in itertools.permutations([((1, 2), 3), ((-1,), 4), ((), 5)], many):
                for kind in (list, tuple):
                    told = made_pot(kind(pairs))
                    self.assertIs(type(told), list)
                    self.assertEqual(told, sorted(pairs))

    def test_rising_words(self):
        pairs = [((2,), 1), ((1, 2), 1), ((1,), 1), ((), 1), ((-2, 1), 1), ((-2, -1), 1), ((-8,), 1), ((1, 3), 1)]
        words = [(), (-8,), (-2, -1), (-2, 1), (1,), (1, 2), (1, 3), (2,)]
        self.assertEqual(made_pot(pairs), [(some, 1) for some in words])

    def test_the_same_words_are_added(self):
        self.assertEqual(made_pot([((1,), 2), ((-1,), 5), ((1,), 3), ((), 1), ((), GREAT), ((1,), 1)]),
                         [((), GREAT + 1), ((-1,), 5), ((1,), 6)])

    def test_of_nothing(self):
        self.assertEqual(made_pot([]), [])
        self.assertEqual(made_pot(()), [])
        self.assertEqual(made_pot([((), 7)]), [((), 7)])

    def test_pairs_and_words_that_are_lists(self):
        self.assertEqual(made_pot([[[2, 1], 3], ([-1], 4)]), [((-1,), 4), ((1, 2), 3)])

    def test_what_is_told_has_its_kinds_and_is_the_askers_own(self):
        pairs = [((1, 2), 3), ((-1,), 4), ((1, 2), 5)]
        told = made_pot(pairs)
        self.assertEqual({type(thing) for pair in told for thing in (pair, pair[0])}, {tuple})
        told.append("more")
        self.assertEqual(pairs, [((1, 2), 3), ((-1,), 4), ((1, 2), 5)])
        self.assertEqual(made_pot(pairs), [((-1,), 4), ((1, 2), 8)])
        pot = made_pot(POT)
        self.assertEqual(pot, POT)
        pot.clear()
        self.assertEqual(made_pot(POT), POT)


class PotLoss(unittest.TestCase):

    def test_some_settings(self):
        self.assertEqual(pot_loss(POT, (0, 0, 0, 0)), 2 + 5 + 1)
        self.assertEqual(pot_loss(POT, (1, 0, 0, 0)), 2 + 3 + 7 + 1)
        self.assertEqual(pot_loss(POT, (0, 1, 0, 0)), 2)
        self.assertEqual(pot_loss(POT, (1, 1, 0, 1)), 2 + 3)

    def test_of_nothing(self):
        for n in range(9):
            for setting in settings_of(n):
                self.assertEqual(pot_loss([], setting), 0)
                self.assertEqual(pot_loss([((), GREAT)], setting), GREAT)

    def test_over_all_settings(self):
        chance = random.Random("pot loss")
        for n in range(1, 9):
            for most in (3, 10 ** 60):
                pot = made_up_pot(chance, n, 24, most)
                ahead = copy.deepcopy(pot)
                for setting in settings_of(n):
                    loss = pot_loss(pot, setting)
                    self.assertIs(type(loss), int)
                    self.assertEqual(loss, poured_loss(pot, setting))
                self.assertEqual(pot, ahead)


class PouredPot(unittest.TestCase):

    def test_two_names_alone(self):
        self.assertEqual(poured_pot([((-1,), 3), ((1,), 3)], (1,), (-1,)), [((), 3)])
        self.assertEqual(poured_pot([((-1,), 3), ((1,), 5)], (1,), (-1,)), [((), 3), ((1,), 2)])
        self.assertEqual(poured_pot([((), 4), ((-1,), GREAT), ((1,), 5)], (1,), (-1,)), [((), 9), ((-1,), GREAT - 5)])

    def test_a_word_more(self):
        self.assertEqual(poured_pot([((-1, 2), 3), ((1,), 3)], (1,), (-1, 2)), [((-2, 1), 3), ((2,), 3)])
        self.assertEqual(poured_pot([((-1,), 2), ((1, 2), 3)], (1, 2), (-1,)), [((-2, -1), 2), ((1, 2), 1), ((2,), 2)])

    def test_like_words(self):
        self.assertEqual(poured_pot([((-1, 2), 3), ((1, 2), 4)], (1, 2), (-1, 2)), [((1, 2), 1), ((2,), 3)])

    def test_several_words(self):
        # P is 3 and 4, Q is -5, 3 and 6, and the name is 2.
        pot = [((-5, -2, 3, 6), 8), ((2, 3, 4), 6)]
        come = [((-5, 3, 4, 6), 6), ((2, 3, 4, 5), 6), ((-6, -5, 2, 3, 4), 6), ((-5, -4, -2, 3, 6), 6)]
        self.assertEqual(poured_pot(pot, (2, 3, 4), (-5, -2, 3, 6)), sorted([*come, ((-5, -2, 3, 6), 2)]))

    def test_steps_of_three_words_each(self):
        pot = [((-1, 5, 6, 7), 1), ((1, 2, 3, 4), 1)]
        come = [(2, 3, 4, 5, 6, 7), (-5, 1, 2, 3, 4), (-6, 1, 2, 3, 4, 5), (-7, 1, 2, 3, 4, 5, 6),
                (-2, -1, 5, 6, 7), (-3, -1, 2, 5, 6, 7), (-4, -1, 2, 3, 5, 6, 7)]
        self.assertEqual(poured_pot(pot, (1, 2, 3, 4), (-1, 5, 6, 7)), [(words, 1) for words in sorted(come)])

    def test_what_comes_is_added_to_the_same_words(self):
        pot = [((-2, 1), 4), ((-1, 2), 3), ((1,), 3), ((2,), 6)]
        self.assertEqual(poured_pot(pot, (1,), (-1, 2)), [((-2, 1), 7), ((2,), 9)])
        pot = [((-1, 3), 5), ((1, 2), 5), ((2, 3), 1)]
        self.assertEqual(poured_pot(pot, (1, 2), (-1, 3)), [((-3, 1, 2), 5), ((-2, -1, 3), 5), ((2, 3), 6)])

    def test_the_rest_stays(self):
        pot = made_pot([((), 1), ((-1,), 2), ((1,), 2), ((3,), 9), ((-1, 3), 4), ((1, 4), 4)])
        self.assertEqual(poured_pot(pot, (1,), (-1,)), made_pot([((), 3), ((3,), 9), ((-1, 3), 4), ((1, 4), 4)]))

    def test_no_setting_loses_more_or_less(self):
        chance = random.Random("poured")
        many = 0
        for n in range(1, 9):
            for most in (1, 3, 10 ** 60):
                pot = made_up_pot(chance, n, 24, most)
                ahead = copy.deepcopy(pot)
                for (one, _), (other, _) in itertools.product(pot, repeat=2):
                    by_words = poured_by(pot, one, other)
                    if by_words is None:
                        self.refused(pot, one, other)
                        continue
                    many += 1
                    told = poured_pot(pot, one, other)
                    self.assertIs(type(told), list)
                    self.assertEqual(told, by_words)
                    self.assertEqual(poured_pot(pot, one, other), told)
                    self.assertEqual(poured_pot(tuple(pot), one, other), told)
                    for setting in settings_of(n) if many % 5 == 0 else ():
                        self.assertEqual(poured_loss(told, setting), poured_loss(pot, setting))
                self.assertEqual(pot, ahead)
        self.assertGreater(many, 200)

    def refused(self, pot, one, other):
        with self.assertRaises(NoPour) as caught:
            poured_pot(pot, one, other)
        self.assertEqual(caught.exception.at, 0)

    def test_no_opposite_name(self):
        pot = made_pot([((), 1), ((1,), 1), ((2,), 1), ((-3,), 1), ((1, 2), 1)])
        for (one, _), (other, _) in itertools.product(pot, repeat=2):
            self.refused(pot, one, other)

    def test_two_opposite_names(self):
        pot = made_pot([((1, 2), 1), ((-2, -1), 1), ((-2, 1), 1), ((-1, 2), 1), ((1, 2, 3), 1), ((-3, -2, -1), 1)])
        for one, other in (((1, 2), (-2, -1)), ((-2, -1), (1, 2)), ((-2, 1), (-1, 2)), ((-1, 2), (-2, 1)),
                           ((1, 2, 3), (-3, -2, -1)), ((1, 2, 3), (-2, -1)), ((1, 2), (-3, -2, -1))):
            self.refused(pot, one, other)

    def test_words_that_are_not_in_the_pot(self):
        pot = [((-1,), 3), ((1, 2), 3)]
        self.assertEqual(len(poured_pot(pot, (1, 2), (-1,))), 2)
        for one, other in (((1,), (-1,)), ((1, 2), (-1, 3)), ((1, 2), (-2,)), ((2,), (-2,)), ((3,), (-3,)),
                           ((1,), (-1, 3)), ((), ()), ((8,), (-8,)), ((1, 2), ())):
            self.refused(pot, one, other)
            self.refused([], one, other)

    def test_the_two_exchanged(self):
        self.refused([((-1,), 3), ((1, 2), 3)], (-1,), (1, 2))
        self.refused([((-1,), 3), ((1,), 3)], (-1,), (1,))

    def test_one_twice(self):
        for words in ((1,), (-1,), (1, 2), ()):
            self.refused([(words, 3)], words, words)

    def test_what_is_refused_changes_nothing(self):
        pot = copy.deepcopy(POT)
        self.refused(pot, (-1,), (1, 2))
        self.refused(pot, (1,), (-1,))
        self.assertEqual(pot, POT)

    def test_what_is_told_is_the_askers_own(self):
        told = poured_pot(POT, (1, 2), (-1,))
        kept = copy.deepcopy(told)
        told.clear()
        self.assertEqual(poured_pot(POT, (1, 2), (-1,)), kept)


class PoursNow(unittest.TestCase):

    def test_some_pots(self):
        self.assertEqual(pours_now(POT, 1), [((1, 2), (-1,)), ((1, 2), (-1, 3, 4))])
        for name in range(2, 9):
            self.assertEqual(pours_now(POT, name), [])
        self.assertEqual(pours_now([], 1), [])
        self.assertEqual(pours_now([((), 4)], 1), [])

    def test_two_opposite_names(self):
        pot = made_pot([((-2, -1), 1), ((-1,), 1), ((1,), 1), ((1, 2), 1), ((2,), 1)])
        self.assertEqual(pours_now(pot, 1), [((1,), (-2, -1)), ((1,), (-1,)), ((1, 2), (-1,))])
        self.assertEqual(pours_now(pot, 2), [((2,), (-2, -1))])

    def test_all_pairs_rising(self):
        chance = random.Random("pours now")
        many = 0
        for n in range(1, 9):
            for _ in range(6):
                pot = made_up_pot(chance, n, 24, 5)
                ahead = copy.deepcopy(pot)
                for name in range(1, n + 1):
                    told = pours_now(pot, name)
                    self.assertIs(type(told), list)
                    words = [some for some, _ in pot]
                    pairs = [(one, other) for one in words for other in words
                             if name in one and -name in other and poured_by(pot, one, other) is not None]
                    self.assertEqual(told, sorted(pairs))
                    many += len(pairs)
                    told.append("more")
                    self.assertEqual(pours_now(pot, name), sorted(pairs))
                self.assertEqual(pot, ahead)
        self.assertGreater(many, 300)


class PotAfter(unittest.TestCase):

    steps = [((1, 2), (-1,)), ((1, 2), (-1, 3, 4)), ((2,), (-2, -1))]

    def test_of_no_steps(self):
        for steps in ([], ()):
            told = pot_after(POT, steps)
            self.assertEqual(told, POT)
            told.append("more")
            self.assertEqual(pot_after(POT, steps), POT)
        self.assertEqual(pot_after([], []), [])

    def test_of_several(self):
        pot = POT
        for many, (one, other) in enumerate(self.steps, 1):
            pot = poured_by(pot, one, other)
            for kind in (list, tuple):
                steps = kind(self.steps[:many])
                told = pot_after(POT, steps)
                self.assertIs(type(told), list)
                self.assertEqual(told, pot)
                self.assertEqual(pot_after(tuple(POT), steps), pot)
                self.assertEqual(steps, kind(self.steps[:many]))

    def refused(self, at, steps, pot=POT):
        ahead = copy.deepcopy(pot)
        for kind in (list, tuple):
            with self.assertRaises(NoPour) as caught:
                pot_after(pot, kind(steps))
            self.assertEqual(caught.exception.at, at)
        self.assertEqual(pot, ahead)

    def test_the_first_that_cannot_be(self):
        bad = ((1,), (-1,))
        for at in range(4):
            self.refused(at, [*self.steps[:at], bad, *self.steps[at:]])
            self.refused(at, [*self.steps[:at], bad, bad])
        self.refused(0, [self.steps[2]])
        self.refused(1, [self.steps[0], self.steps[0][::-1]])
        self.refused(0, [((), ())])
        self.refused(0, [bad], [])

    def test_what_is_gone_cannot_be_poured_again(self):
        self.refused(1, [self.steps[0], self.steps[0]])
        self.refused(1, [((1,), (-1,))] * 2, [((-1,), 1), ((1,), 2)])

    def test_made_up_steps(self):
        chance = random.Random("pot after")
        many = 0
        for n in range(1, 6):
            for _ in range(8):
                pot = made_up_pot(chance, n, 12, chance.choice((2, 10 ** 60)))
                then, steps = pot, []
                while len(steps) < 6:
                    pours = [pour for name in range(1, n + 1) for pour in pours_now(then, name)]
                    if not pours:
                        break
                    steps.append(chance.choice(pours))
                    then = poured_by(then, *steps[-1])
                self.assertEqual(pot_after(pot, steps), then)
                many += len(steps)
                for setting in settings_of(n):
                    self.assertEqual(poured_loss(then, setting), poured_loss(pot, setting))
                bad = (made_up_words(chance, n, n), made_up_words(chance, n, n))
                if poured_by(then, *bad) is None:
                    self.refused(len(steps), [*steps, bad], pot)
        self.assertGreater(many, 100)


if __name__ == "__main__":
    unittest.main()

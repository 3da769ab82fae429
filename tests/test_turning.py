"""7.1 to 7.3, with 0.2 and 0.4 so far as they reach dues and turning."""

import copy
import itertools
import random
import unittest

from tests.helpers import kept_by, made_up_dues, made_up_lists, owed_by, settings_of
from wishdues.errors import NoDue
from wishdues.rules import made_rules
from wishdues.turning import dues_after, dues_loss, turned_dues

GREAT = int("9" * 60)
RULES = [("or", (1,)), ("or", (2,)), ("or", (3,)), ("or", (-3, -2, -1)), ("not", 0)]
DUES = [(0, 5), (1, 3), (2, 3), (3, 8)]
# What is no set that can be turned, of whatever dues.
NO_SETS = (None, True, False, 0, 1, -1, GREAT, "", "0", "set", b"", b"\x00", [], [0], [0, 1], {}, {0: 0}, set(), {0},
           frozenset((0,)), range(1), object(), int, 1j, (), (True,), (False,), (None,), ("0",), ("",), ((0,),),
           ([0],), ({},), ([],), (object(),), (0, None), (None, 0), (0, True), (False, 1), (0, "1"), (0, [1]),
           (0, 1, {}), (-1,), (-1, 0), (GREAT,), (-GREAT, 0), (0, GREAT), (0, 0), (1, 0), (0, 1, 1), (0, 2, 1),
           (2, 1, 0), (b"0",), (1j,))


def some_of(numbers):
    return [some for size in range(1, len(numbers) + 1) for some in itertools.combinations(numbers, size)]


class DuesLoss(unittest.TestCase):

    def test_over_settings(self):
        self.assertEqual(dues_loss(RULES, DUES, (0, 0, 0)), 11)
        self.assertEqual(dues_loss(RULES, DUES, (1, 1, 1)), 8)
        self.assertEqual(dues_loss(RULES, DUES, (1, 0, 1)), 3)
        self.assertEqual(dues_loss(RULES, [(4, GREAT), (3, 1)], (1, 1, 1)), GREAT + 1)

    def test_of_no_dues(self):
        for setting in settings_of(3):
            self.assertEqual(dues_loss(RULES, [], setting), 0)
        self.assertEqual(dues_loss([], [], ()), 0)

    def test_made_up_dues(self):
        chance = random.Random("dues")
        for n, rows in made_up_lists("dues", 80):
            rules = made_rules(n, rows)
            dues = made_up_dues(chance, len(rules), chance.choice((3, 10 ** 30)))
            ahead = copy.deepcopy((rules, dues))
            for setting in settings_of(n):
                loss = dues_loss(rules, dues, setting)
                self.assertIs(type(loss), int)
                self.assertEqual(loss, owed_by(rules, dues, setting))
            self.assertEqual((rules, dues), ahead)


class TurnedDues(unittest.TestCase):

    def test_a_set_of_one_rule(self):
        self.assertEqual(turned_dues(RULES, DUES, (0,)), (5, RULES, DUES[1:]))
        self.assertEqual(turned_dues(RULES, DUES, (3,)), (8, RULES, DUES[:3]))
        self.assertEqual(turned_dues(RULES, [(2, GREAT)], (2,)), (GREAT, RULES, []))

    def test_unlike_dues(self):
        paid, rules, dues = turned_dues(RULES, DUES, (0, 1))
        self.assertEqual((paid, rules), (3, [*RULES, ("few", 1, (0, 1))]))
        self.assertEqual(dues, [(0, 2), (2, 3), (3, 8), (5, 3)])
        paid, rules, dues = turned_dues(RULES, DUES, (0, 3))
        self.assertEqual((paid, rules), (5, [*RULES, ("few", 1, (0, 3))]))
        self.assertEqual(dues, [(1, 3), (2, 3), (3, 3), (5, 5)])

    def test_like_dues(self):
        paid, rules, dues = turned_dues(RULES, DUES, (1, 2))
        self.assertEqual((paid, rules), (3, [*RULES, ("few", 1, (1, 2))]))
        self.assertEqual(dues, [(0, 5), (3, 8), (5, 3)])

    def test_all_of_them(self):
        paid, rules, dues = turned_dues(RULES, DUES, (0, 1, 2, 3))
        counts = [("few", 1, (0, 1, 2, 3)), ("few", 2, (0, 1, 2, 3)), ("few", 3, (0, 1, 2, 3))]
        self.assertEqual((paid, rules), (3, RULES + counts))
        self.assertEqual(dues, [(0, 2), (3, 5), (5, 3), (6, 3), (7, 3)])

    def test_what_is_told_has_its_kinds(self):
        for handed in ((RULES, DUES), (tuple(RULES), tuple(DUES))):
            told = turned_dues(*handed, (0, 1, 3))
            self.assertEqual([type(thing) for thing in (told, *told)], [tuple, int, list, list])
            self.assertEqual({type(thing) for thing in told[1] + told[2]}, {tuple})

    def test_the_loss_ahead_is_what_was_paid_and_the_loss_behind(self):
        chance = random.Random("turned")
        many = 0
        for n, rows in made_up_lists("turned", 60, most_names=3, most_rules=6):
            rules = made_rules(n, rows)
            dues = made_up_dues(chance, len(rules), chance.choice((2, 5, 10 ** 30)))
            for some in some_of([number for number, _ in dues]):
                self.look_at(n, rules, dues, some)
                many += 1
        self.assertGreater(many, 300)

    def look_at(self, n, rules, dues, some):
        ahead = copy.deepcopy((rules, dues))
        told = turned_dues(rules, dues, some)
        self.assertEqual((rules, dues), ahead)
        self.assertEqual(turned_dues(rules, dues, some), told)
        paid, rules_then, dues_then = told
        self.assertEqual(paid, min(weight for number, weight in dues if number in some))
        self.assertEqual(rules_then, rules + [("few", most, some) for most in range(1, len(some))])
        self.assertEqual(dues_then, sorted(dues_then))
        self.assertEqual(len(dict(dues_then)), len(dues_then))
        self.assertTrue(all(weight >= 1 for _, weight in dues_then))
        for setting in settings_of(n):
            breaks = any(not kept_by(rules, number, setting) for number in some)
            self.assertEqual(owed_by(rules, dues, setting),
                             owed_by(rules_then, dues_then, setting) + (paid if breaks else 0))

    def refused(self, rules, dues, thing):
        with self.assertRaises(NoDue) as caught:
            turned_dues(rules, dues, thing)
        self.assertEqual(caught.exception.at, 0)

    def test_what_is_no_set(self):
        ahead = copy.deepcopy((RULES, DUES))
        for thing in NO_SETS:
            self.refused(RULES, DUES, thing)
            self.refused(RULES, [], thing)
        self.assertEqual((RULES, DUES), ahead)

    def test_a_number_without_a_due(self):
        for thing in ((4,), (0, 4), (5,), (0, 5), (3, 24)):
            self.refused(RULES, DUES, thing)
        self.refused(RULES, DUES[1:], (0, 1))
        self.refused(RULES, [], (0,))
        self.refused([], [], (0,))

    def test_what_is_told_is_the_askers_own(self):
        rules, dues = list(RULES), list(DUES)
        told = turned_dues(rules, dues, (0,))
        told[1].append("more")
        told[2].append("more")
        self.assertEqual((rules, dues), (RULES, DUES))
        self.assertEqual(turned_dues(rules, dues, (0,)), (5, RULES, DUES[1:]))


class DuesAfter(unittest.TestCase):

    steps = [((0, 1), ("broken", 0)), ((0, 2, 5), ("broken", 9)), ((3,), None)]

    def test_of_no_steps(self):
        for steps in ([], ()):
            told = dues_after(RULES, DUES, steps)
            self.assertEqual(told, (0, RULES, DUES))
            self.assertEqual([type(thing) for thing in (told, *told)], [tuple, int, list, list])
        self.assertEqual(dues_after([], [], []), (0, [], []))

    def test_of_several(self):
        rules = [*RULES, ("few", 1, (0, 1)), ("few", 1, (0, 2, 5)), ("few", 2, (0, 2, 5))]
        dues = [(2, 1), (5, 1), (6, 2), (7, 2)]
        for steps in (self.steps, tuple(self.steps)):
            self.assertEqual(dues_after(RULES, DUES, steps), (13, rules, dues))
            self.assertEqual(dues_after(tuple(RULES), tuple(DUES), steps), (13, rules, dues))

    def test_one_behind_the_other(self):
        chance = random.Random("steps")
        for n, rows in made_up_lists("steps", 80, most_names=3, most_rules=6):
            rules = made_rules(n, rows)
            dues = made_up_dues(chance, len(rules), chance.choice((2, 5, 10 ** 30)))
            steps, paid, then = [], 0, (list(rules), list(dues))
            while then[1] and len(steps) < 5:
                numbers = [number for number, _ in then[1]]
                some = tuple(sorted(chance.sample(numbers, chance.randint(1, min(3, len(numbers))))))
                one, *then = turned_dues(*then, some)
                paid += one
                steps.append((some, ("broken", -1)))
                ahead = copy.deepcopy((rules, dues, steps))
                self.assertEqual(dues_after(rules, dues, steps), (paid, *then))
                self.assertEqual((rules, dues, steps), ahead)

    def test_trees_are_not_looked_at(self):
        for tree in (None, 7, "tree", (), [], ("part",), ("broken", GREAT), {}, object()):
            self.assertEqual(dues_after(RULES, DUES, [((0,), tree)]), (5, RULES, DUES[1:]))

    def refused(self, at, steps, rules=RULES, dues=DUES):
        for kind in (list, tuple):
            with self.assertRaises(NoDue) as caught:
                dues_after(rules, dues, kind(steps))
            self.assertEqual(caught.exception.at, at)

    def test_a_set_that_cannot_be_turned(self):
        for thing in NO_SETS:
            self.refused(0, [(thing, None)])
            self.refused(1, [((3,), None), (thing, None)])
            self.refused(2, [((2,), None), ((1,), None), (thing, None), (thing, None)])
            self.refused(0, [(thing, None), ((0,), None)])

    def test_a_due_that_is_gone_by_then_or_not_there_yet(self):
        self.refused(1, [((0,), None), ((0,), None)])
        self.refused(1, [((1, 2), None), ((1,), None)])
        self.refused(2, [((0, 1), None), ((0,), None), ((0,), None)])
        self.refused(0, [((5,), None), ((0, 1), None)])
        self.refused(1, [((0, 1), None), ((6,), None)])
        self.assertEqual(dues_after(RULES, DUES, [((0, 1), None), ((5,), None)])[0], 6)
        self.refused(0, [((0,), None)], [], [])

    def test_what_is_told_is_the_askers_own(self):
        rules, dues = list(RULES), list(DUES)
        for steps in ([], [((0,), None)]):
            told = dues_after(rules, dues, steps)
            kept = copy.deepcopy(told)
            told[1].append("more")
            told[2].append("more")
            self.assertEqual((rules, dues), (RULES, DUES))
            self.assertEqual(dues_after(rules, dues, steps), kept)


if __name__ == "__main__":
    unittest.main()

"""3.1 to 3.3, with 0.2, 0.3 and 0.5 so far as they reach least clashes and greatest peaces."""

import copy
import itertools
import random
import unittest

from tests.helpers import kept_by, made_up_lists, made_up_parts, open_names, settings_keeping, settings_of, tree_by
from wishdues.clashes import clash_right, greatest_peace, least_clash, peace_right
from wishdues.errors import NoClash, NoPeace
from wishdues.rules import made_rules

GREAT = int("9" * 60)
# Yes and no of each of two names, and one of both: 0 and 1 clash, 2 and 3, and 1, 3 and 4.
FIVE = made_rules(2, [("or", (1,)), ("or", (-1,)), ("or", (2,)), ("or", (-2,)), ("or", (1, 2))])
ALL = (0, 1, 2, 3, 4)
TREE = ("part", 1, ("part", 2, ("broken", 4), ("broken", 3)), ("broken", 1))
# 1, 3 and 4 with the settings that leave out each one in turn.
CLASH = ((1, 3, 4), TREE, [(1, 0), (0, 1), (0, 0)])
PEACE = ((0, 2, 4), (1, 1), [("part", 1, ("broken", 0), ("broken", 1)), ("part", 2, ("broken", 2), ("broken", 3))])
TWELVE = ("broken", GREAT)
for deep in range(12):
    TWELVE = ("part", -GREAT if deep % 2 else deep, TWELVE, TWELVE)


def is_rising(things):
    return list(things) == sorted(set(things))


def clash_by(n, rules, musts, numbers, told):
    """Whether a told triple is a least clash, straight after 3.1."""
    part, tree, settings = told
    return (is_rising(part) and set(part) <= set(numbers) and len(part) == len(settings)
            and tree_by(rules, set(musts) | set(part), open_names(n), tree)
            and all(setting in settings_keeping(n, rules, [*musts, *(set(part) - {number})])
                    for number, setting in zip(part, settings)))


def peace_by(n, rules, musts, numbers, told):
    """Whether a told triple is a greatest peace, straight after 3.2."""
    part, setting, trees = told
    others = [number for number in numbers if number not in part]
    return (is_rising(part) and set(part) <= set(numbers) and len(others) == len(trees)
            and setting in settings_keeping(n, rules, [*musts, *part])
            and all(tree_by(rules, {*musts, *part, number}, open_names(n), tree)
                    for number, tree in zip(others, trees)))


class LeastClash(unittest.TestCase):

    def look_at(self, n, rules, musts, numbers):
        told = least_clash(n, rules, musts, numbers)
        self.assertIs(type(told), tuple)
        part, tree, settings = told
        self.assertEqual((type(part), type(tree), type(settings)), (tuple, tuple, list))
        self.assertTrue(clash_by(n, rules, musts, numbers, told))
        self.assertIs(clash_right(n, rules, musts, numbers, told), True)
        self.assertIs(clash_right(n, rules, musts, numbers, (part, tree, tuple(settings))), True)
        self.assertEqual(least_clash(n, rules, musts, numbers), told)
        return told

    def test_rules_that_clash(self):
        for numbers, part in (((0, 1), (0, 1)), ((0, 1, 2), (0, 1)), ((1, 2, 3, 4), None), ((1, 3, 4), (1, 3, 4))):
            told = self.look_at(2, FIVE, (), numbers)
            self.assertIn(told[0], [part] if part else [(2, 3), (1, 3, 4)])

    def test_with_musts(self):
        self.assertEqual(self.look_at(2, FIVE, (3,), (1, 4))[0], (1, 4))
        self.assertEqual(self.look_at(2, FIVE, (1, 3), (4,))[0], (4,))
        self.assertEqual(self.look_at(2, FIVE, (1, 4), (3,))[0], (3,))
        self.assertEqual(self.look_at(2, FIVE, (0,), (1, 2, 4))[0], (1,))

    def test_musts_that_clash_alone(self):
        for numbers in ((), (2,), (2, 3, 4)):
            part, tree, settings = self.look_at(2, FIVE, (0, 1), numbers)
            self.assertEqual((part, settings), ((), []))

    def test_one_that_no_setting_keeps(self):
        rules = made_rules(1, [("or", ()), ("or", (1,))])
        self.assertEqual(least_clash(1, rules, (), (0, 1)), ((0,), ("broken", 0), [(0,)]))
        self.assertEqual(least_clash(0, [("or", ())], (), (0,)), ((0,), ("broken", 0), [()]))
        self.assertEqual(least_clash(0, [("or", ())], (0,), ()), ((), ("broken", 0), []))

    def test_no_clash(self):
        for n, rules, musts, numbers in ((2, FIVE, (), ()), (2, FIVE, (), (0, 2, 4)), (2, FIVE, (1,), (2, 4)),
                                         (2, FIVE, (1, 2), (4,)), (2, FIVE, (0, 2), ()), (0, [], (), ()),
                                         (8, [], (), ())):
            with self.assertRaises(NoClash):
                least_clash(n, rules, musts, numbers)

    def test_made_up_rules(self):
        chance = random.Random("least")
        many = [0, 0, 0]
        for n, rows in made_up_lists("clashes", 250):
            rules = made_rules(n, rows)
            musts, numbers = made_up_parts(chance, len(rules), 3)
            if settings_keeping(n, rules, [*musts, *numbers]):
                with self.assertRaises(NoClash):
                    least_clash(n, rules, musts, numbers)
                many[0] += 1
            else:
                part = self.look_at(n, rules, musts, numbers)[0]
                self.assertIs(part == (), settings_keeping(n, rules, musts) == [])
                many[1 if part == () else 2] += 1
        self.assertGreater(min(many), 20)

    def test_no_rule_of_eight_names_can_be_left_out(self):
        rules = made_rules(8, [("or", (name,)) for name in range(1, 9)] + [("or", tuple(range(-8, 0)))])
        self.assertEqual(self.look_at(8, rules, (), tuple(range(9)))[0], tuple(range(9)))
        self.assertEqual(self.look_at(8, rules, (8,), tuple(range(8)))[0], tuple(range(8)))

    def test_what_is_told_is_the_askers_own(self):
        rules, musts, numbers = list(FIVE), (3,), (1, 4)
        told = least_clash(2, rules, musts, numbers)
        kept = copy.deepcopy(told)
        told[2].append("more")
        told[2][0] = "other"
        self.assertEqual(least_clash(2, rules, musts, numbers), kept)
        self.assertEqual(least_clash(2, tuple(rules), musts, numbers), kept)
        self.assertEqual((rules, musts, numbers), (FIVE, (3,), (1, 4)))


class ClashRight(unittest.TestCase):

    def wrong(self, told, musts=(), numbers=ALL, n=2):
        self.assertIs(clash_right(n, FIVE, musts, numbers, told), False)
        self.assertIs(clash_right(n, FIVE, musts, numbers, (told[0], told[1], tuple(told[2]))), False)

    def right(self, told, musts=(), numbers=ALL):
        self.assertIs(clash_right(2, FIVE, musts, numbers, told), True)
        self.assertIs(clash_right(2, FIVE, musts, numbers, (told[0], told[1], tuple(told[2]))), True)

    def test_right_ones(self):
        self.right(CLASH)
        self.right(CLASH, numbers=(1, 3, 4))
        self.right(((0, 1), ("part", 1, ("broken", 0), ("broken", 1)), [(0, 1), (1, 1)]))
        self.right(((1, 4), TREE, [(1, 0), (0, 0)]), musts=(3,), numbers=(0, 1, 2, 4))
        self.right(((), TREE, []), musts=(1, 3, 4), numbers=(0, 2))
        self.right(((), TREE, []), musts=(1, 3, 4), numbers=())

    def test_other_settings_and_trees(self):
        self.right(((0, 1), ("part", 1, ("broken", 0), ("broken", 1)), [(0, 0), (1, 0)]))
        tree = ("part", 2, ("part", 1, ("broken", 4), ("broken", 1)), ("broken", 3))
        self.right(((1, 3, 4), tree, CLASH[2]))

    def test_a_number_left_out(self):
        for at in range(3):
            part = CLASH[0][:at] + CLASH[0][at + 1:]
            self.wrong((part, TREE, CLASH[2]))
            self.wrong((part, TREE, CLASH[2][:at] + CLASH[2][at + 1:]))
        self.wrong(((), TREE, []))
        # The musts clash, so nothing more may stand in the part, though the tree is right.
        self.wrong(((0,), TREE, [(0, 0)]), musts=(1, 3, 4), numbers=(0,))

    def test_a_number_put_in(self):
        # 0 and the rest of the part are kept by no setting without 1, and so on.
        for setting in settings_of(2):
            self.wrong(((0, 1, 3, 4), TREE, [setting, (1, 0), (0, 1), (0, 0)]))
            self.wrong(((1, 2, 3, 4), TREE, [(1, 0), setting, (0, 1), (0, 0)]))

    def test_a_number_twice_or_out_of_order(self):
        self.wrong(((1, 1, 3, 4), TREE, [(1, 0), (1, 0), (0, 1), (0, 0)]))
        self.wrong(((1, 3, 3, 4), TREE, [(1, 0), (0, 1), (0, 1), (0, 0)]))
        for order in itertools.permutations(range(3)):
            told = (tuple(CLASH[0][at] for at in order), TREE, [CLASH[2][at] for at in order])
            self.assertIs(clash_right(2, FIVE, (), ALL, told), order == (0, 1, 2))

    def test_a_number_of_the_musts(self):
        self.wrong(CLASH, musts=(3,), numbers=(0, 1, 2, 4))
        self.wrong(((3,), TREE, [(0, 1)]), musts=(1, 3, 4), numbers=(0, 2))

    def test_a_number_that_is_none_of_the_further_ones(self):
        for numbers in ((0, 1, 2, 3), (3, 4), ()):
            self.wrong(CLASH, numbers=numbers)

    def test_a_number_beyond_the_list(self):
        for number in (5, -1, -2, 24, GREAT, -GREAT):
            self.wrong((tuple(sorted((1, 3, number))), TREE, CLASH[2]))
            self.wrong((tuple(sorted((1, 3, 4, number))), TREE, [*CLASH[2], (0, 0)]))
            self.wrong(((number,), ("broken", number), [(0, 0)]))

    def test_a_changed_tree(self):
        for tree in (("broken", 1), ("broken", 5), ("broken", -1), ("broken", GREAT), TREE[2], TWELVE,
                     ("part", 1, TREE[3], TREE[2]), ("part", 2, TREE[2], TREE[3]), ("part", 3, TREE[2], TREE[3]),
                     ("part", 1, ("part", 2, ("broken", 3), ("broken", 4)), ("broken", 1)),
                     ("part", 1, ("broken", 0), ("broken", 1)), ("part", 1, TREE[2], ("broken", 0))):
            self.wrong((CLASH[0], tree, CLASH[2]))

    def test_settings_too_few_or_too_many(self):
        for settings in ([], CLASH[2][:2], CLASH[2][1:], [*CLASH[2], (0, 0)], [(1, 0), *CLASH[2]]):
            self.wrong((CLASH[0], TREE, settings))
        self.wrong(((), TREE, [(0, 0)]), musts=(1, 3, 4), numbers=(0, 2))

    def test_settings_exchanged(self):
        for order in itertools.permutations(range(3)):
            told = (CLASH[0], TREE, [CLASH[2][at] for at in order])
            self.assertIs(clash_right(2, FIVE, (), ALL, told), order == (0, 1, 2))

    def test_settings_that_do_not_keep_the_others(self):
        for at, setting in itertools.product(range(3), settings_of(2)):
            settings = list(CLASH[2])
            settings[at] = setting
            told = (CLASH[0], TREE, settings)
            self.assertIs(clash_right(2, FIVE, (), ALL, told), setting == CLASH[2][at])

    def test_settings_that_break_a_must(self):
        told = ((0, 1), ("part", 1, ("broken", 0), ("broken", 1)), [(0, 1), (1, 0)])
        self.right(told)
        self.wrong(told, musts=(2,), numbers=(0, 1, 3, 4))
        self.right(told, musts=(4,), numbers=(0, 1, 2, 3))

    def test_settings_of_another_form(self):
        for at in range(3):
            setting = CLASH[2][at]
            for bad in ((), setting[:1], setting + (0,), setting + (1,), (2, 2), (-1, -1), (GREAT, 0), (0, -GREAT),
                        (setting[0], 2), (-1, setting[1])):
                settings = list(CLASH[2])
                settings[at] = bad
                self.wrong((CLASH[0], TREE, settings))
        # Of a name that the rules do not speak of, too.
        tree = ("part", 1, ("broken", 0), ("broken", 1))
        for bad in (2, -1, GREAT, -GREAT):
            self.right(((0, 1), tree, [(0, 1), (1, 1)]))
            self.wrong(((0, 1), tree, [(0, bad), (1, 1)]))
            self.wrong(((0, 1), tree, [(0, 1), (1, bad)]))

    def test_made_up_papers_are_judged_after_the_words(self):
        chance = random.Random("twisted clashes")
        many = [0, 0]
        for n, rows in made_up_lists("clash papers", 200, most_names=3):
            rules = made_rules(n, rows)
            musts, numbers = made_up_parts(chance, len(rules), 2)
            if settings_keeping(n, rules, [*musts, *numbers]):
                continue
            part, tree, settings = least_clash(n, rules, musts, numbers)
            for _ in range(12):
                told = (tuple(number for number in range(len(rules)) if (number in part) != (chance.random() < 0.1)),
                        tree, [chance.choice([setting, chance.choice(settings_of(n))]) for setting in settings])
                judged = clash_by(n, rules, musts, numbers, told)
                self.assertIs(clash_right(n, rules, musts, numbers, told), judged)
                many[judged] += 1
        self.assertGreater(min(many), 50)

    def test_what_is_handed_in_stays(self):
        rules, told = list(FIVE), copy.deepcopy(CLASH)
        for _ in range(2):
            self.assertIs(clash_right(2, rules, (), ALL, told), True)
            self.assertIs(clash_right(2, rules, (3,), (1, 4), told), False)
        self.assertEqual((rules, told), (FIVE, CLASH))
        self.assertIs(clash_right(2, tuple(rules), (), ALL, told), True)


class GreatestPeace(unittest.TestCase):

    def look_at(self, n, rules, musts, numbers):
        told = greatest_peace(n, rules, musts, numbers)
        self.assertIs(type(told), tuple)
        part, setting, trees = told
        self.assertEqual((type(part), type(setting), type(trees)), (tuple, tuple, list))
        self.assertTrue(peace_by(n, rules, musts, numbers, told))
        self.assertIs(peace_right(n, rules, musts, numbers, told), True)
        self.assertIs(peace_right(n, rules, musts, numbers, (part, setting, tuple(trees))), True)
        self.assertEqual(greatest_peace(n, rules, musts, numbers), told)
        return told

    def test_all_where_they_can_be_kept_together(self):
        for musts, numbers in (((), ()), ((), (0, 2, 4)), ((0,), (2, 4)), ((1, 2), (4,)), ((1, 2, 4), ())):
            part, setting, trees = self.look_at(2, FIVE, musts, numbers)
            self.assertEqual((part, trees), (numbers, []))
        self.assertEqual(self.look_at(0, [], (), ()), ((), (), []))

    def test_some_left_out(self):
        part, setting, trees = self.look_at(2, FIVE, (), ALL)
        self.assertIn(part, [(0, 2, 4), (0, 3, 4), (1, 2, 4), (1, 3)])
        self.assertEqual(self.look_at(2, FIVE, (1, 3), (0, 2, 4))[:2], ((), (0, 0)))
        self.assertEqual(self.look_at(2, FIVE, (1, 4), (0, 2, 3))[:2], ((2,), (0, 1)))
        self.assertEqual(self.look_at(0, [("or", ())], (), (0,)), ((), (), [("broken", 0)]))

    def test_no_peace(self):
        for musts in ((0, 1), (2, 3), (1, 3, 4), (0, 1, 2, 3)):
            for numbers in ((), tuple(number for number in ALL if number not in musts)):
                with self.assertRaises(NoPeace):
                    greatest_peace(2, FIVE, musts, numbers)
        with self.assertRaises(NoPeace):
            greatest_peace(0, [("or", ())], (0,), ())

    def test_made_up_rules(self):
        chance = random.Random("greatest")
        many = [0, 0]
        for n, rows in made_up_lists("peaces", 250):
            rules = made_rules(n, rows)
            musts, numbers = made_up_parts(chance, len(rules), 3)
            if settings_keeping(n, rules, musts):
                part = self.look_at(n, rules, musts, numbers)[0]
                self.assertIs(part == numbers, settings_keeping(n, rules, [*musts, *numbers]) != [])
                many[0] += part != numbers
            else:
                with self.assertRaises(NoPeace):
                    greatest_peace(n, rules, musts, numbers)
                many[1] += 1
        self.assertGreater(min(many), 20)

    def test_of_each_clash_some_rule_is_left_out(self):
        chance = random.Random("crossed")
        many = 0
        for n, rows in made_up_lists("crossed", 120):
            rules = made_rules(n, rows)
            musts, numbers = made_up_parts(chance, len(rules), 2)
            if not settings_keeping(n, rules, musts) or settings_keeping(n, rules, [*musts, *numbers]):
                continue
            many += 1
            peace = greatest_peace(n, rules, musts, numbers)[0]
            self.assertTrue(set(least_clash(n, rules, musts, numbers)[0]) - set(peace))
            for size in range(len(numbers) + 1):
                for some in itertools.combinations(numbers, size):
                    if not settings_keeping(n, rules, [*musts, *some]):
                        self.assertTrue(set(some) - set(peace))
        self.assertGreater(many, 30)

    def test_eight_names(self):
        rules = made_rules(8, [("or", (name,)) for name in range(1, 9)] + [("or", tuple(range(-8, 0)))])
        self.assertEqual(len(self.look_at(8, rules, (), tuple(range(9)))[0]), 8)
        self.assertEqual(len(self.look_at(8, rules, (8,), tuple(range(8)))[0]), 7)

    def test_what_is_told_is_the_askers_own(self):
        rules, musts, numbers = list(FIVE), (1,), (0, 2, 3, 4)
        told = greatest_peace(2, rules, musts, numbers)
        kept = copy.deepcopy(told)
        told[2].append("more")
        told[2][0] = "other"
        self.assertEqual(greatest_peace(2, rules, musts, numbers), kept)
        self.assertEqual(greatest_peace(2, tuple(rules), musts, numbers), kept)
        self.assertEqual((rules, musts, numbers), (FIVE, (1,), (0, 2, 3, 4)))


class PeaceRight(unittest.TestCase):

    def wrong(self, told, musts=(), numbers=ALL):
        self.assertIs(peace_right(2, FIVE, musts, numbers, told), False)
        self.assertIs(peace_right(2, FIVE, musts, numbers, (told[0], told[1], tuple(told[2]))), False)

    def right(self, told, musts=(), numbers=ALL):
        self.assertIs(peace_right(2, FIVE, musts, numbers, told), True)
        self.assertIs(peace_right(2, FIVE, musts, numbers, (told[0], told[1], tuple(told[2]))), True)

    def test_right_ones(self):
        self.right(PEACE)
        self.right(((), (0, 0), []), numbers=())
        self.right(((2,), (1, 1), [PEACE[2][0], PEACE[2][1]]), musts=(0, 4), numbers=(1, 2, 3))
        self.right(((), (1, 1), []), musts=(0, 2, 4), numbers=())
        self.right(((0, 4), (1, 0), []), numbers=(0, 4))
        self.right(((0, 4), (1, 1), []), numbers=(0, 4))
        # A greatest one need not have the most rules.
        self.right(((1, 3), (0, 0), [("part", 1, ("broken", 0), ("broken", 1)),
                                     ("part", 2, ("broken", 2), ("broken", 3)), TREE]))

    def test_a_number_left_out(self):
        # 4 could come as well: no tree shows that it clashes.
        for tree in (TREE, PEACE[2][0], PEACE[2][1], ("broken", 4)):
            self.wrong(((0, 2), (1, 1), [*PEACE[2], tree]))
        self.wrong(((0, 2), (1, 1), PEACE[2]))
        self.wrong(((2, 4), (1, 1), PEACE[2]))
        self.wrong(((), (1, 1), []))

    def test_a_number_put_in(self):
        self.wrong(((0, 1, 2, 4), (1, 1), PEACE[2][1:]))
        self.wrong(((0, 2, 3, 4), (1, 1), PEACE[2][:1]))
        self.wrong((ALL, (1, 1), []))

    def test_a_number_twice_or_out_of_order(self):
        self.wrong(((0, 0, 2, 4), (1, 1), PEACE[2]))
        self.wrong(((0, 2, 4, 4), (1, 1), PEACE[2]))
        for order in itertools.permutations((0, 2, 4)):
            self.assertIs(peace_right(2, FIVE, (), ALL, (order, *PEACE[1:])), order == (0, 2, 4))

    def test_a_number_of_the_musts_or_of_none(self):
        self.wrong(PEACE, musts=(0,), numbers=(1, 2, 3, 4))
        self.wrong(PEACE, numbers=(1, 2, 3, 4))
        self.wrong(PEACE, numbers=(0, 1, 2, 3))
        for number in (5, -1, -5, 24, GREAT, -GREAT):
            self.wrong((tuple(sorted((0, 2, 4, number))), (1, 1), PEACE[2]))

    def test_a_changed_setting(self):
        for setting in settings_of(2):
            self.assertIs(peace_right(2, FIVE, (), ALL, (PEACE[0], setting, PEACE[2])), setting == (1, 1))
        for bad in ((), (1,), (1, 1, 1), (1, 1, 0), (1, 2), (-1, 1), (GREAT, 1), (1, -GREAT)):
            self.wrong((PEACE[0], bad, PEACE[2]))
        for bad in (2, -1, GREAT, -GREAT):
            self.wrong(((0, 4), (1, bad), []), numbers=(0, 4))
        self.wrong(((4,), (0, 1), []), musts=(0,), numbers=(4,))
        self.right(((4,), (1, 1), []), musts=(0,), numbers=(4,))

    def test_changed_trees(self):
        self.wrong((PEACE[0], (1, 1), PEACE[2][::-1]))
        self.wrong((PEACE[0], (1, 1), PEACE[2][:1]))
        self.wrong((PEACE[0], (1, 1), PEACE[2][1:]))
        self.wrong((PEACE[0], (1, 1), []))
        self.wrong((PEACE[0], (1, 1), [*PEACE[2], PEACE[2][0]]))
        self.wrong((PEACE[0], (1, 1), [PEACE[2][0]] * 2))
        for at in range(2):
            for tree in (TREE, ("broken", 0), ("broken", GREAT), ("broken", -1), TWELVE,
                         ("part", 1, ("broken", 1), ("broken", 0))):
                trees = list(PEACE[2])
                trees[at] = tree
                self.wrong((PEACE[0], (1, 1), trees))

    def test_made_up_papers_are_judged_after_the_words(self):
        chance = random.Random("twisted peaces")
        many = [0, 0]
        for n, rows in made_up_lists("peace papers", 200, most_names=3):
            rules = made_rules(n, rows)
            musts, numbers = made_up_parts(chance, len(rules), 2)
            if not settings_keeping(n, rules, musts):
                continue
            part, setting, trees = greatest_peace(n, rules, musts, numbers)
            for _ in range(8):
                told = (tuple(number for number in range(len(rules)) if (number in part) != (chance.random() < 0.1)),
                        chance.choice([setting, chance.choice(settings_of(n))]),
                        trees[:] if chance.random() < 0.7 else chance.sample(trees, len(trees)))
                judged = peace_by(n, rules, musts, numbers, told)
                self.assertIs(peace_right(n, rules, musts, numbers, told), judged)
                many[judged] += 1
        self.assertGreater(min(many), 50)

    def test_what_is_handed_in_stays(self):
        rules, told = list(FIVE), copy.deepcopy(PEACE)
        for _ in range(2):
            self.assertIs(peace_right(2, rules, (), ALL, told), True)
            self.assertIs(peace_right(2, rules, (), (0, 1, 2, 3), told), False)
        self.assertEqual((rules, told), (FIVE, PEACE))
        self.assertIs(peace_right(2, tuple(rules), (), ALL, told), True)


class Oracles(unittest.TestCase):

    def test_the_papers_above_are_right_after_the_words(self):
        self.assertTrue(clash_by(2, FIVE, (), ALL, CLASH))
        self.assertTrue(peace_by(2, FIVE, (), ALL, PEACE))
        self.assertEqual([kept_by(FIVE, number, (0, 0)) for number in ALL], [False, True, False, True, False])


if __name__ == "__main__":
    unittest.main()

"""2.1 to 2.3, with 0.2, 0.3 and 0.5 so far as they reach the trees."""

import copy
import itertools
import random
import unittest

from tests.helpers import kept_by, made_up_lists, open_names, settings_of, tree_by
from wishdues.rules import made_rules, rules_kept
from wishdues.trees import kept_settings, kept_together, tree_ends, tree_right

GREAT = int("9" * 60)
BOTH = made_rules(1, [("or", (1,)), ("or", (-1,))])
# Of two names: all four either-ors of both.
FOUR = made_rules(2, [("or", (1, 2)), ("or", (1, -2)), ("or", (-1, 2)), ("or", (-1, -2))])
FOUR_TREE = ("part", 1, ("part", 2, ("broken", 0), ("broken", 1)), ("part", 2, ("broken", 2), ("broken", 3)))


def number_sets(rules, most=4):
    """All rising tuples of at most so many of the rules' numbers."""
    numbers = range(len(rules))
    return [some for many in range(most + 1) for some in itertools.combinations(numbers, many)]


def full_tree(deep, name_at, ends):
    """A tree whose every way is so deep, with the name of each depth told."""
    if deep == 0:
        return ("broken", next(ends))
    at = name_at(deep)
    return ("part", at, full_tree(deep - 1, name_at, ends), full_tree(deep - 1, name_at, ends))


def made_up_tree(chance, n, many, deep):
    """A tree of the told form, mostly not a right one."""
    if deep == 0 or chance.random() < 0.3:
        return ("broken", chance.randint(-1, many))
    name = chance.randint(1, n) if n and chance.random() < 0.9 else chance.choice((0, -1, n + 1))
    return ("part", name, made_up_tree(chance, n, many, deep - 1), made_up_tree(chance, n, many, deep - 1))


class TreeRight(unittest.TestCase):

    def wrong(self, n, rules, numbers, tree):
        self.assertIs(tree_right(n, rules, numbers, tree), False)

    def right(self, n, rules, numbers, tree):
        self.assertIs(tree_right(n, rules, numbers, tree), True)

    def test_one_end_alone(self):
        self.right(0, [("or", ())], (0,), ("broken", 0))
        self.right(3, [("or", (1,)), ("or", ())], (0, 1), ("broken", 1))
        self.wrong(0, [("or", ()), ("not", 0)], (0, 1), ("broken", 1))
        self.wrong(1, [("or", (1,))], (0,), ("broken", 0))
        self.wrong(0, [], (), ("broken", 0))

    def test_one_part(self):
        self.right(1, BOTH, (0, 1), ("part", 1, ("broken", 0), ("broken", 1)))
        self.wrong(1, BOTH, (0, 1), ("part", 1, ("broken", 1), ("broken", 0)))
        self.wrong(1, BOTH, (0, 1), ("part", 1, ("broken", 0), ("broken", 0)))
        self.wrong(1, BOTH, (0, 1), ("part", 1, ("broken", 1), ("broken", 1)))

    def test_both_sides_are_looked_at(self):
        self.right(2, FOUR, (0, 1, 2, 3), FOUR_TREE)
        for at, bad in itertools.product(range(4), range(4)):
            ends = [0, 1, 2, 3]
            ends[at] = bad
            tree = ("part", 1, ("part", 2, ("broken", ends[0]), ("broken", ends[1])),
                    ("part", 2, ("broken", ends[2]), ("broken", ends[3])))
            self.assertIs(tree_right(2, FOUR, (0, 1, 2, 3), tree), at == bad)

    def test_sides_exchanged(self):
        _, name, no, yes = FOUR_TREE
        self.wrong(2, FOUR, (0, 1, 2, 3), ("part", name, yes, no))
        self.wrong(2, FOUR, (0, 1, 2, 3), ("part", name, ("part", 2, no[3], no[2]), yes))
        self.wrong(2, FOUR, (0, 1, 2, 3), ("part", name, no, ("part", 2, yes[3], yes[2])))

    def test_names_in_another_order(self):
        tree = ("part", 2, ("part", 1, ("broken", 0), ("broken", 2)), ("part", 1, ("broken", 1), ("broken", 3)))
        self.right(2, FOUR, (0, 1, 2, 3), tree)

    def test_a_part_of_what_is_no_name(self):
        for name in (0, -1, -2, 2, 3, GREAT, -GREAT):
            self.wrong(1, BOTH, (0, 1), ("part", name, ("broken", 0), ("broken", 1)))
            self.wrong(1, [("or", ())], (0,), ("part", name, ("broken", 0), ("broken", 0)))
        self.wrong(0, [("or", ())], (0,), ("part", 1, ("broken", 0), ("broken", 0)))

    def test_a_part_of_a_name_that_is_not_open(self):
        inner = ("part", 1, ("broken", 0), ("broken", 0))
        self.wrong(2, [("or", ())], (0,), ("part", 1, inner, ("broken", 0)))
        self.wrong(2, [("or", ())], (0,), ("part", 1, ("broken", 0), inner))
        self.wrong(2, [("or", ())], (0,), ("part", 2, ("part", 1, inner, ("broken", 0)), ("broken", 0)))
        self.right(2, [("or", ())], (0,), ("part", 2, inner, ("broken", 0)))
        self.right(2, [("or", ())], (0,), ("part", 2, inner, inner))

    def test_an_end_that_is_none_of_the_numbers(self):
        tree = ("part", 1, ("broken", 0), ("broken", 1))
        for numbers in ((), (0,), (1,)):
            self.wrong(1, BOTH, numbers, tree)
        self.right(1, [*BOTH, ("or", ())], (0, 1), tree)
        self.wrong(1, [*BOTH, ("or", ())], (0, 1), ("broken", 2))
        self.right(1, [*BOTH, ("or", ())], (2,), ("broken", 2))

    def test_an_end_that_is_no_rule(self):
        # -1 would be the last rule, if it were asked of a Python list.
        rules = [("or", (1,)), ("or", ())]
        for number in (-1, -2, 2, 3, 24, GREAT, -GREAT):
            self.wrong(1, rules, (0, 1), ("broken", number))
            self.wrong(1, rules, (0, 1), ("part", 1, ("broken", 0), ("broken", number)))
            self.wrong(1, rules, (0, 1, number), ("broken", number))

    def test_an_end_that_is_not_broken_by_then(self):
        self.wrong(2, FOUR, (0, 1, 2, 3), ("broken", 0))
        self.wrong(2, FOUR, (0, 1, 2, 3), ("part", 1, ("broken", 0), FOUR_TREE[3]))
        # The rule is broken in every setting, but only where no name is open by 1.4.
        rules = [*BOTH, ("few", 0, (0, 1))]
        self.assertEqual(kept_settings(1, rules, (2,)), [])
        self.wrong(1, rules, (2,), ("broken", 2))
        self.right(1, rules, (2,), ("part", 1, ("broken", 2), ("broken", 2)))

    def test_counts_and_nots_as_ends(self):
        rules = made_rules(2, [("or", (1,)), ("or", (2,)), ("few", 1, (0, 1)), ("not", 2)])
        self.right(2, rules, (2, 3), ("part", 1, ("part", 2, ("broken", 2), ("broken", 3)), ("broken", 3)))
        self.wrong(2, rules, (2, 3), ("part", 1, ("broken", 2), ("broken", 3)))

    def test_no_rules_never_clash(self):
        for tree in (("broken", 0), FOUR_TREE, ("part", 1, ("broken", 0), ("broken", 1))):
            self.wrong(2, FOUR, (), tree)

    def test_eight_deep(self):
        tree = full_tree(8, lambda deep: deep, itertools.repeat(0))
        self.right(8, [("or", ())], (0,), tree)
        self.wrong(7, [("or", ())], (0,), tree)
        self.wrong(8, [("or", (1,))], (0,), tree)

    def test_twelve_deep(self):
        # Eight names cannot be parted twelve times on one way.
        for name_at in (lambda deep: deep, lambda deep: deep % 8 + 1, lambda deep: 1, lambda deep: GREAT):
            self.wrong(8, [("or", ())], (0,), full_tree(12, name_at, itertools.repeat(0)))

    def test_made_up_trees_are_judged_after_the_words(self):
        chance = random.Random("twists")
        for n, rows in made_up_lists("judged", 150, most_names=3, most_rules=5):
            rules = made_rules(n, rows)
            for _ in range(15):
                numbers = chance.choice(number_sets(rules))
                tree = made_up_tree(chance, n, len(rules), 3)
                self.assertIs(tree_right(n, rules, numbers, tree), judged(n, rules, numbers, tree))

    def test_what_is_handed_in_stays(self):
        rules, numbers, tree = list(FOUR), (0, 1, 2, 3), copy.deepcopy(FOUR_TREE)
        for _ in range(2):
            self.right(2, rules, numbers, tree)
            self.wrong(2, rules, (0,), tree)
        self.assertEqual((rules, numbers, tree), (FOUR, (0, 1, 2, 3), FOUR_TREE))
        self.right(2, tuple(rules), numbers, tree)


def judged(n, rules, numbers, tree):
    return tree_by(rules, [number for number in numbers if 0 <= number < len(rules)], open_names(n), tree)


class KeptTogether(unittest.TestCase):

    def test_of_no_numbers(self):
        for n in range(9):
            self.assertEqual(kept_together(n, [], ()), ("kept", (0,) * n))
            self.assertEqual(kept_settings(n, [], ()), settings_of(n))
        self.assertEqual(kept_together(1, BOTH, ()), ("kept", (0,)))
        self.assertEqual(kept_together(0, [("or", ())], ()), ("kept", ()))

    def test_of_no_names(self):
        rules = made_rules(0, [("or", ()), ("not", 0), ("few", 1, (0, 1))])
        self.assertEqual(kept_together(0, rules, (0,)), ("clash", ("broken", 0)))
        self.assertEqual(kept_settings(0, rules, (0,)), [])
        self.assertEqual(kept_together(0, rules, (1, 2)), ("kept", ()))
        self.assertEqual(kept_settings(0, rules, (1, 2)), [()])
        self.assertEqual(kept_together(0, rules, (0, 1, 2)), ("clash", ("broken", 0)))

    def test_the_least_setting(self):
        rules = made_rules(3, [("or", (1, 2)), ("or", (-2, 3)), ("or", (1,)), ("or", (-3,))])
        self.assertEqual(kept_together(3, rules, (0,)), ("kept", (0, 1, 0)))
        self.assertEqual(kept_together(3, rules, (0, 1)), ("kept", (0, 1, 1)))
        self.assertEqual(kept_together(3, rules, (0, 1, 3)), ("kept", (1, 0, 0)))
        self.assertEqual(kept_together(3, rules, (0, 1, 2, 3)), ("kept", (1, 0, 0)))
        self.assertEqual(kept_settings(3, rules, (0, 1)), [(0, 1, 1), (1, 0, 0), (1, 0, 1), (1, 1, 1)])

    def test_a_clash(self):
        self.assertEqual(kept_together(1, BOTH, (0, 1)), ("clash", ("part", 1, ("broken", 0), ("broken", 1))))
        told = kept_together(2, FOUR, (0, 1, 2, 3))
        self.assertEqual(told[0], "clash")
        self.assertTrue(tree_right(2, FOUR, (0, 1, 2, 3), told[1]))
        for left_out in range(4):
            numbers = tuple(number for number in range(4) if number != left_out)
            self.assertEqual(kept_together(2, FOUR, numbers)[0], "kept")

    def test_all_settings_of_eight_names(self):
        # Each name's yes is wished, but at least one is to be no: none keeps all nine.
        rules = made_rules(8, [("or", (name,)) for name in range(1, 9)] + [("or", tuple(range(-8, 0)))])
        told = kept_together(8, rules, tuple(range(9)))
        self.assertEqual(told[0], "clash")
        self.assertTrue(judged(8, rules, tuple(range(9)), told[1]))
        self.assertEqual(kept_together(8, rules, tuple(range(8))), ("kept", (1,) * 8))
        self.assertEqual(kept_together(8, rules, tuple(range(1, 9))), ("kept", (0,) + (1,) * 7))
        self.assertEqual(kept_settings(8, rules, tuple(range(7))), [(1,) * 7 + (0,), (1,) * 8])

    def test_a_clash_that_shows_with_all_names_put(self):
        rules = made_rules(8, [("or", (name,)) for name in range(1, 9)]
                           + [("few", 3, tuple(range(8))), ("few", 4, tuple(range(8))), ("not", 8), ("not", 9)])
        self.assertEqual(kept_together(8, rules, (9, 10)), ("kept", (0,) * 4 + (1,) * 4))
        for numbers in ((8, 10), (8, 11), (9, 11)):
            told = kept_together(8, rules, numbers)
            self.assertEqual(told[0], "clash")
            self.assertTrue(judged(8, rules, numbers, told[1]))
            self.assertTrue(tree_right(8, rules, numbers, told[1]))

    def test_all_sets_of_made_up_rules(self):
        for n, rows in made_up_lists("together", 60, most_rules=6):
            rules = made_rules(n, rows)
            for numbers in number_sets(rules):
                self.look_at(n, rules, numbers)

    def look_at(self, n, rules, numbers):
        keeping = [setting for setting in settings_of(n)
                   if all(kept_by(rules, number, setting) for number in numbers)]
        settings = kept_settings(n, rules, numbers)
        self.assertEqual(settings, keeping)
        self.assertEqual(settings, sorted(set(settings)))
        told = kept_together(n, rules, numbers)
        self.assertIs(type(told), tuple)
        self.assertEqual(len(told), 2)
        if keeping:
            self.assertEqual(told, ("kept", keeping[0]))
        else:
            self.assertEqual(told[0], "clash")
            self.assertTrue(judged(n, rules, numbers, told[1]))
            self.assertTrue(tree_right(n, rules, numbers, told[1]))
        self.assertEqual(kept_together(n, rules, numbers), told)

    def test_long_chains(self):
        rules = made_rules(2, [("or", (1,))] + [("not", at - 1) for at in range(1, 24)])
        self.assertEqual(kept_together(2, rules, (0, 22)), ("kept", (1, 0)))
        self.assertEqual(kept_together(2, rules, (23,)), ("kept", (0, 0)))
        told = kept_together(2, rules, (22, 23))
        self.assertTrue(judged(2, rules, (22, 23), told[1]))

    def test_what_is_told_is_the_askers_own(self):
        rules = made_rules(2, [("or", (1, 2)), ("or", (-1,))])
        ahead = list(rules)
        told = kept_settings(2, rules, (0,))
        self.assertIs(type(told), list)
        first = list(told)
        told.append("more")
        told[0] = "other"
        self.assertEqual(kept_settings(2, rules, (0,)), first)
        self.assertEqual(kept_settings(2, tuple(rules), (0,)), first)
        self.assertEqual(kept_together(2, tuple(rules), (0, 1)), kept_together(2, rules, (0, 1)))
        self.assertEqual(rules, ahead)

    def test_with_a_rule_more(self):
        rules = [("or", (1,))] * 24 + [("not", 0)]
        self.assertEqual(kept_together(1, rules, (24,)), ("kept", (0,)))
        told = kept_together(1, rules, (3, 24))
        self.assertTrue(tree_right(1, rules, (3, 24), told[1]))


class TreeEnds(unittest.TestCase):

    def test_one_end_alone(self):
        for number in (0, 7, -1, GREAT, -GREAT):
            self.assertEqual(tree_ends(("broken", number)), (number,))

    def test_rising_and_each_once(self):
        self.assertEqual(tree_ends(FOUR_TREE), (0, 1, 2, 3))
        self.assertEqual(tree_ends(("part", 1, ("broken", 5), ("broken", 2))), (2, 5))
        self.assertEqual(tree_ends(("part", 1, ("broken", 5), ("broken", 5))), (5,))
        tree = ("part", 1, ("part", 2, ("broken", 9), ("broken", 10)), ("part", 2, ("broken", 10), ("broken", -3)))
        self.assertEqual(tree_ends(tree), (-3, 9, 10))

    def test_of_any_whole_numbers(self):
        tree = ("part", GREAT, ("part", -GREAT, ("broken", GREAT), ("broken", -GREAT)),
                ("part", 0, ("broken", 0), ("broken", 0)))
        self.assertEqual(tree_ends(tree), (-GREAT, 0, GREAT))

    def test_it_is_a_tuple(self):
        self.assertIs(type(tree_ends(FOUR_TREE)), tuple)

    def test_twelve_deep(self):
        self.assertEqual(tree_ends(full_tree(12, lambda deep: 1, itertools.count())), tuple(range(4096)))
        one_way = ("broken", 0)
        for number in range(1, 13):
            one_way = ("part", 1, ("broken", -number), one_way)
        self.assertEqual(tree_ends(one_way), tuple(range(-12, 1)))

    def test_the_ends_of_a_told_tree_clash_by_it(self):
        many = 0
        for n, rows in made_up_lists("ends", 80, most_rules=6):
            rules = made_rules(n, rows)
            numbers = tuple(range(len(rules)))
            told = kept_together(n, rules, numbers)
            if told[0] == "clash":
                many += 1
                ends = tree_ends(told[1])
                self.assertTrue(set(ends) <= set(numbers))
                self.assertTrue(tree_right(n, rules, ends, told[1]))
                self.assertEqual(kept_settings(n, rules, ends), [])
                for setting in settings_of(n):
                    kept = rules_kept(rules, setting)
                    self.assertFalse(all(kept[number] for number in ends))
        self.assertGreater(many, 10)


if __name__ == "__main__":
    unittest.main()

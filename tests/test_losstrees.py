"""5.1 to 5.3, with 0.2, 0.3 and 0.6 so far as they reach trees of losses."""

import copy
import itertools
import random
import unittest

from tests.helpers import (least_by, lost_by, made_up_houses, open_names, settings_keeping, sure_by, weighed_by)
from wishdues.houses import made_house
from wishdues.losstrees import loss_tree, tree_shows

GREAT = int("9" * 60)
NEVER = ("never",)
# One of two names must be yes; each no is wished, the second of rank 2, and both once more.
HOUSE = (2, [("or", (1, 2)), ("or", (-1,)), ("or", (-2,))], (0,), [(1, 1, 5), (2, 2, 3), (1, 2, 4), (2, 2, 1)])
TREE = ("part", 1, ("part", 2, ("must", 0), ("lost", (1, 3))), ("lost", (0, 2)))
CLASHING = (1, [("or", (1,)), ("or", (-1,))], (0, 1), [(0, 1, 1), (1, 1, 1)])


def shown_by(house, partial, tree):
    """What a tree of losses shows from a partial setting (a dict of names) on, straight after 5.1."""
    n, rules, musts, wishes = house
    marks = tuple(partial[name] for name in range(1, n + 1))
    if tree[0] == "must":
        return NEVER if tree[1] in musts and sure_by(rules, tree[1], marks) == "broken" else None
    if tree[0] == "lost":
        right = (list(tree[1]) == sorted(set(tree[1])) and set(tree[1]) <= set(range(len(wishes)))
                 and all(sure_by(rules, wishes[place][0], marks) == "broken" for place in tree[1]))
        return ("least", weighed_by(house, tree[1])) if right else None
    if tree[1] not in partial or partial[tree[1]] is not None:
        return None
    sides = [shown_by(house, {**partial, tree[1]: mark}, side) for mark, side in enumerate(tree[2:])]
    if None in sides:
        return None
    return min([side for side in sides if side != NEVER], key=lambda side: side[1], default=NEVER)


def made_up_tree(chance, house, partial):
    """A tree of losses of the told form, often a right one."""
    n, rules, musts, wishes = house
    marks = tuple(partial[name] for name in range(1, n + 1))
    names = [name for name in partial if partial[name] is None]
    if not names or chance.random() < 0.25:
        lost = [place for place, wish in enumerate(wishes) if sure_by(rules, wish[0], marks) == "broken"]
        broken = [number for number in musts if sure_by(rules, number, marks) == "broken"]
        if broken and chance.random() < 0.7:
            return ("must", chance.choice(broken))
        if chance.random() < 0.04:
            return chance.choice([("must", chance.randint(-1, len(rules))), ("lost", (chance.randint(-1, len(wishes)),))])
        return ("lost", tuple(sorted(chance.sample(lost, chance.randint(0, len(lost))))))
    name = chance.choice(names) if chance.random() < 0.98 else chance.randint(0, n + 1)
    sides = [made_up_tree(chance, house, {**partial, name: mark}) if name in partial else ("lost", ())
             for mark in (0, 1)]
    return ("part", name, *sides)


class TreeShows(unittest.TestCase):

    def shows(self, house, tree, shown):
        for _ in range(2):
            self.assertEqual(tree_shows(house, tree), shown)
        if shown is not None:
            self.assertIs(type(tree_shows(house, tree)), tuple)
        self.assertEqual(shown_by(house, open_names(house[0]), tree), shown)

    def test_right_trees(self):
        self.shows(HOUSE, TREE, ("least", (0, 4)))
        self.shows(HOUSE, ("lost", ()), ("least", (0, 0)))
        self.shows(HOUSE, ("part", 1, ("lost", ()), ("lost", (0, 2))), ("least", (0, 0)))
        self.shows(HOUSE, ("part", 2, ("part", 1, ("must", 0), ("lost", (2,))), ("lost", (1, 3))), ("least", (0, 4)))
        self.shows(CLASHING, ("part", 1, ("must", 0), ("must", 1)), NEVER)

    def test_no_wish_told_as_lost(self):
        self.shows((0, [], (), []), ("lost", ()), ("least", ()))
        self.shows((1, [("or", ())], (), [(0, 3, 2)]), ("lost", ()), ("least", (0, 0, 0)))
        self.shows((1, [("or", ())], (), [(0, 3, 2)]), ("lost", (0,)), ("least", (0, 0, 2)))

    def test_a_must_alone(self):
        self.shows((0, [("or", ())], (0,), []), ("must", 0), NEVER)
        self.shows((3, [("or", (1,)), ("or", ())], (0, 1), []), ("must", 1), NEVER)

    def test_a_must_that_is_none(self):
        rules = [("or", ()), ("or", ()), ("or", (1,))]
        for number in (0, -1, -2, -3, 2, 3, GREAT, -GREAT):
            self.shows((1, rules, (1,), [(0, 1, 1)]), ("must", number), None)
        self.shows((1, rules, (1,), [(0, 1, 1)]), ("must", 1), NEVER)

    def test_a_must_that_is_not_broken_by_then(self):
        self.shows(HOUSE, ("must", 0), None)
        self.shows(HOUSE, ("part", 1, ("must", 0), ("lost", (0,))), None)
        self.shows(HOUSE, ("part", 1, ("lost", ()), ("must", 0)), None)
        self.shows(CLASHING, ("part", 1, ("must", 1), ("must", 0)), None)
        # Broken in every setting, but not by 1.4 while the name is open.
        house = (1, [("or", (1,)), ("or", (-1,)), ("few", 0, (0, 1))], (2,), [])
        self.shows(house, ("must", 2), None)
        self.shows(house, ("part", 1, ("must", 2), ("must", 2)), NEVER)

    def test_places_out_of_order_twice_or_beyond(self):
        house = (0, [("or", ())], (), [(0, 1, 1), (0, 2, 2), (0, 1, 4)])
        self.shows(house, ("lost", (0, 1, 2)), ("least", (5, 2)))
        self.shows(house, ("lost", (0, 2)), ("least", (5, 0)))
        for places in ((1, 0), (0, 2, 1), (2, 1, 0), (0, 0), (1, 1), (0, 1, 1), (0, 0, 1), (3,), (0, 3), (-1,), (-1, 0),
                       (-3,), (0, 1, 2, 3), (GREAT,), (-GREAT, 0), (0, GREAT)):
            self.shows(house, ("lost", places), None)

    def test_a_wish_that_is_not_broken_by_then(self):
        self.shows(HOUSE, ("lost", (0,)), None)
        self.shows(HOUSE, ("part", 1, ("lost", (0,)), ("lost", ())), None)
        self.shows(HOUSE, ("part", 1, ("lost", ()), ("lost", (0, 1))), None)
        self.shows(HOUSE, ("part", 1, ("lost", ()), ("lost", (0, 2))), ("least", (0, 0)))

    def test_a_part_of_what_is_no_open_name(self):
        for name in (0, -1, -2, 3, GREAT, -GREAT):
            self.shows(HOUSE, ("part", name, ("lost", ()), ("lost", ())), None)
        self.shows((0, [], (), []), ("part", 1, ("lost", ()), ("lost", ())), None)
        inner = ("part", 1, ("lost", ()), ("lost", ()))
        self.shows(HOUSE, ("part", 1, inner, ("lost", ())), None)
        self.shows(HOUSE, ("part", 1, ("lost", ()), inner), None)
        self.shows(HOUSE, ("part", 2, inner, inner), ("least", (0, 0)))
        self.shows(HOUSE, ("part", 2, ("part", 1, inner, ("lost", ())), ("lost", ())), None)

    def test_the_lesser_of_two_sides(self):
        rules = [("or", (1,)), ("or", (-1,)), ("or", ())]
        for no, yes in itertools.product(((0, 9), (1, 0), (1, 1), (2, 0)), repeat=2):
            weights = [(0, 1, no[0]), (0, 2, no[1]), (1, 1, yes[0]), (1, 2, yes[1])]
            wishes = [wish for wish in weights if wish[2]] + [(2, 2, 1)]
            places = [tuple(at for at, wish in enumerate(wishes) if wish[0] == number) for number in (0, 1)]
            self.shows((1, rules, (), wishes), ("part", 1, ("lost", places[0]), ("lost", places[1])),
                       ("least", min(no, yes)))

    def test_never_on_one_side_or_on_both(self):
        house = (1, [("or", (1,)), ("or", (-1,))], (0, 1), [(0, 1, GREAT), (1, 1, GREAT)])
        lost = ("least", (GREAT,))
        self.shows(house, ("part", 1, ("must", 0), ("lost", (1,))), lost)
        self.shows(house, ("part", 1, ("lost", (0,)), ("must", 1)), lost)
        self.shows(house, ("part", 1, ("lost", (0,)), ("lost", (1,))), lost)
        self.shows(house, ("part", 1, ("must", 0), ("must", 1)), NEVER)
        # Without wishes too, where losses are ().
        self.shows((*house[:3], []), ("part", 1, ("must", 0), ("lost", ())), ("least", ()))
        self.shows((*house[:3], []), ("part", 1, ("lost", ()), ("must", 1)), ("least", ()))

    def test_a_wrong_one_deep_within(self):
        house = (8, [("or", (8,)), ("or", (-8,)), ("or", ())], (0,), [(1, 1, 2), (2, 1, 3)])
        right, wrong = ("part", 8, ("must", 0), ("lost", (0, 1))), ("part", 8, ("must", 1), ("lost", (0, 1)))
        for way in itertools.product((0, 1), repeat=7):
            tree, bad = right, wrong
            for name, side in enumerate(way, 1):
                tree, bad = [("part", name, *((("lost", (1,)), deep) if side else (deep, ("lost", (1,)))))
                             for deep in (tree, bad)]
            self.assertEqual(tree_shows(house, tree), ("least", (3,)))
            self.assertIs(tree_shows(house, bad), None)

    def test_twelve_deep(self):
        for name_at in (lambda deep: deep % 8 + 1, lambda deep: deep, lambda deep: GREAT):
            tree = ("lost", ())
            for deep in range(12):
                tree = ("part", name_at(deep), tree, tree)
            self.assertIs(tree_shows((8, [], (), []), tree), None)

    def test_what_is_no_tree_of_losses(self):
        self.assertIs(tree_shows(HOUSE, ("broken", 0)), None)
        self.assertIs(tree_shows(HOUSE, ("part", 1, ("broken", 0), ("lost", ()))), None)
        self.assertIs(tree_shows(HOUSE, ("part", 1, ("lost", ()), ("taken",))), None)

    def test_made_up_trees(self):
        chance = random.Random("made-up loss trees")
        many = {None: 0, "least": 0, "never": 0}
        for handed in made_up_houses("loss trees", 150, most_names=3):
            house = made_house(*handed)
            for _ in range(10):
                tree = made_up_tree(chance, house, open_names(house[0]))
                shown = shown_by(house, open_names(house[0]), tree)
                self.assertEqual(tree_shows(house, tree), shown)
                many[shown and shown[0]] += 1
                self.no_setting_loses_less(house, shown)
        self.assertGreater(min(many.values()), 20)

    def no_setting_loses_less(self, house, shown):
        settings = settings_keeping(house[0], house[1], house[2])
        if shown == NEVER:
            self.assertEqual(settings, [])
        elif shown is not None:
            for setting in settings:
                self.assertGreaterEqual(weighed_by(house, lost_by(house, setting)), shown[1])

    def test_what_is_handed_in_stays(self):
        house, tree = copy.deepcopy(HOUSE), copy.deepcopy(TREE)
        tree_shows(house, tree)
        self.assertEqual((house, tree), (HOUSE, TREE))


class LossTree(unittest.TestCase):

    def look_at(self, house):
        ahead = copy.deepcopy(house)
        told = loss_tree(house)
        self.assertIs(type(told), tuple)
        self.assertEqual(house, ahead)
        self.assertEqual(loss_tree(house), told)
        least = least_by(house)
        if least is None:
            self.assertEqual((len(told), told[0]), (2, "never"))
            shown = NEVER
        else:
            settings = settings_keeping(house[0], house[1], house[2])
            best = min(setting for setting in settings if weighed_by(house, lost_by(house, setting)) == least)
            self.assertEqual(told[:3], ("least", least, best))
            self.assertEqual(len(told), 4)
            shown = ("least", least)
        self.assertEqual(tree_shows(house, told[-1]), shown)
        self.assertEqual(shown_by(house, open_names(house[0]), told[-1]), shown)
        return told

    def test_the_least_of_the_best(self):
        self.assertEqual(self.look_at(HOUSE)[:3], ("least", (0, 4), (0, 1)))
        rules = [("or", (1, 2)), ("or", (-1,)), ("or", (-2,))]
        self.assertEqual(self.look_at((2, rules, (0,), [(1, 1, 1), (2, 1, 1)]))[:3], ("least", (1,), (0, 1)))
        self.assertEqual(self.look_at((2, rules, (0,), [(2, 1, 1)]))[:3], ("least", (0,), (1, 0)))

    def test_of_no_names(self):
        self.assertEqual(self.look_at((0, [], (), [])), ("least", (), (), ("lost", ())))
        self.assertEqual(self.look_at((0, [("or", ())], (), [(0, 2, 3)])), ("least", (0, 3), (), ("lost", (0,))))
        self.assertEqual(self.look_at((0, [("or", ())], (0,), [(0, 2, 3)])), ("never", ("must", 0)))

    def test_of_no_wishes(self):
        for n in range(9):
            self.assertEqual(self.look_at((n, [], (), []))[:3], ("least", (), (0,) * n))
        self.assertEqual(self.look_at((2, [("or", (1,))], (0,), []))[:3], ("least", (), (1, 0)))

    def test_musts_that_clash(self):
        self.look_at(CLASHING)
        self.look_at((*CLASHING[:3], []))
        rules = [("or", (name,)) for name in range(1, 9)] + [("few", 3, tuple(range(8))), ("few", 4, tuple(range(8)))]
        self.look_at((8, [*rules, ("not", 9)], (8, 10), [(0, 1, 1)]))
        self.look_at((8, [*rules, ("not", 8)], (9, 10), [(0, 1, 1), (1, 1, 1)]))

    def test_made_up_houses(self):
        many = {"least": 0, "never": 0}
        for handed in made_up_houses("told loss trees", 250):
            many[self.look_at(made_house(*handed))[0]] += 1
        self.assertGreater(min(many.values()), 20)

    def test_eight_names_and_heavy_wishes(self):
        rules = [("or", (name,)) for name in range(1, 9)] + [("or", (-name, -name - 1)) for name in range(1, 8)]
        wishes = [(number, 1 + number % 4, 10 ** 30 - number) for number in range(8)]
        self.look_at((8, rules, tuple(range(8, 15)), wishes + [(8, 1, 1)] * 4))

    def test_a_house_with_a_rule_more(self):
        rules = [("or", (1,))] * 24 + [("or", (-1,))]
        self.assertEqual(self.look_at((1, rules, (24,), [(0, 1, 2)]))[:3], ("least", (2,), (0,)))


if __name__ == "__main__":
    unittest.main()

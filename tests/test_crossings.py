"""6.1 and 6.2, with 0.2 and 0.3 so far as they reach crossings."""

import copy
import itertools
import random
import unittest

from tests.helpers import lost_by, made_up_houses, settings_keeping, weighed_by
from wishdues.crossings import crossing_shows, least_crossing
from wishdues.houses import made_house

GREAT = int("9" * 60)
NEVER = ("never",)
RULES = [("or", (1,))]
HOUSE = (1, RULES, (), [(0, 1, 2), (0, 2, 3), (0, 1, 1), (0, 2, 9)])
SETS = [(0, 1), (1, 2)]
TAKEN = ("taken",)
# 1 taken; else 0 taken, and 2 as well.
TREE = ("part", 1, TAKEN, ("part", 0, ("part", 2, TAKEN, ("bare", 1)), ("bare", 0)))


def shown_by(house, sets, decided, tree):
    """What a tree shows with some wishes decided (a dict of places), straight after 6.2."""
    if tree[0] == "taken":
        return ("least", weighed_by(house, [place for place in decided if decided[place]]))
    if tree[0] == "bare":
        right = tree[1] in range(len(sets)) and all(decided.get(place) is False for place in sets[tree[1]])
        return NEVER if right else None
    if tree[1] not in range(len(house[3])) or tree[1] in decided:
        return None
    sides = [shown_by(house, sets, {**decided, tree[1]: taken}, side) for taken, side in zip((True, False), tree[2:])]
    if None in sides:
        return None
    return min([side for side in sides if side != NEVER], key=lambda side: side[1], default=NEVER)


def crossings_of(many, sets):
    """All sets of wishes that cross all of these."""
    return [some for size in range(many + 1) for some in itertools.combinations(range(many), size)
            if all(set(some) & set(places) for places in sets)]


def made_up_sets(chance, many, most_sets, most_wishes):
    return [tuple(sorted(chance.sample(range(many), chance.randint(1, min(many, most_wishes)))))
            for _ in range(chance.randint(0, most_sets))]


def made_up_tree(chance, house, sets, decided):
    """A tree of the told form, often a right one."""
    places = [place for place in range(len(house[3])) if place not in decided]
    bare = [at for at, some in enumerate(sets) if all(decided.get(place) is False for place in some)]
    if bare and chance.random() < 0.7:
        return ("bare", chance.choice(bare))
    if not places or chance.random() < 0.2:
        return TAKEN if chance.random() < 0.93 else ("bare", chance.randint(-1, len(sets)))
    place = chance.choice(places) if chance.random() < 0.97 else chance.randint(-1, len(house[3]))
    return ("part", place, *[made_up_tree(chance, house, sets, {**decided, place: taken}) for taken in (True, False)])


class LeastCrossing(unittest.TestCase):

    def look_at(self, house, sets, brute=True):
        ahead = copy.deepcopy((house, sets))
        told = least_crossing(house, sets)
        self.assertEqual((house, sets), ahead)
        self.assertEqual(least_crossing(house, sets), told)
        self.assertEqual(least_crossing(house, tuple(sets)), told)
        self.assertEqual([type(thing) for thing in (told, *told)], [tuple] * 4)
        losses, crossing, tree = told
        self.assertEqual(list(crossing), sorted(set(crossing)))
        self.assertTrue(set(crossing) <= set(range(len(house[3]))))
        self.assertTrue(all(set(crossing) & set(places) for places in sets))
        self.assertEqual(losses, weighed_by(house, crossing))
        self.assertEqual(crossing_shows(house, sets, tree), ("least", losses))
        self.assertEqual(shown_by(house, sets, {}, tree), ("least", losses))
        if brute:
            self.assertEqual(losses, min(weighed_by(house, some) for some in crossings_of(len(house[3]), sets)))
        return told

    def test_of_no_sets(self):
        self.assertEqual(self.look_at(HOUSE, []), ((0, 0), (), TAKEN))
        self.assertEqual(self.look_at((1, RULES, (), []), []), ((), (), TAKEN))

    def test_of_some_sets(self):
        self.assertEqual(self.look_at(HOUSE, [(3,)])[:2], ((0, 9), (3,)))
        self.assertEqual(self.look_at(HOUSE, [(0, 2)])[:2], ((1, 0), (2,)))
        self.assertEqual(self.look_at(HOUSE, SETS)[:2], ((0, 3), (1,)))
        self.assertEqual(self.look_at(HOUSE, [(0, 2), (0, 3), (2, 3)])[:2], ((1, 9), (2, 3)))
        self.assertEqual(self.look_at(HOUSE, [(0, 1, 2, 3)])[:2], ((0, 3), (1,)))
        self.assertEqual(self.look_at(HOUSE, [(0,), (1,), (2,), (3,)])[:2], ((3, 12), (0, 1, 2, 3)))

    def test_of_alike_sets(self):
        for places in ((0,), (0, 2), (0, 1, 2, 3)):
            one = self.look_at(HOUSE, [places])
            for many in (2, 5, 70):
                self.assertEqual(self.look_at(HOUSE, [places] * many)[0], one[0])
        self.look_at(HOUSE, [(0, 1), (1, 2), (0, 1), (1, 2), (0, 1)])

    def test_sets_within_one_another(self):
        self.assertEqual(self.look_at(HOUSE, [(0, 1, 2), (0, 1), (0,)])[:2], ((2, 0), (0,)))
        self.assertEqual(self.look_at(HOUSE, [(0,), (0, 1), (0, 1, 2)])[:2], ((2, 0), (0,)))

    def test_the_first_rank_goes_ahead(self):
        house = (1, RULES, (), [(0, 1, 1), (0, 2, 10 ** 30), (0, 2, 10 ** 30)])
        self.assertEqual(self.look_at(house, [(0, 1), (0, 2)])[:2], ((0, 2 * 10 ** 30), (1, 2)))

    def test_made_up_sets(self):
        chance = random.Random("crossings")
        for _ in range(200):
            many = chance.randint(1, 7)
            wishes = [(0, chance.randint(1, 3), chance.randint(1, 5)) for _ in range(many)]
            self.look_at((1, RULES, (), wishes), made_up_sets(chance, many, 8, 4))

    def test_seventy_sets_over_twelve_wishes(self):
        chance = random.Random("seventy")
        for most_weight, most_rank in ((1, 1), (3, 2), (10 ** 30, 4)):
            wishes = [(0, chance.randint(1, most_rank), chance.randint(1, most_weight)) for _ in range(12)]
            for size in (2, 4, 6):
                sets = [tuple(sorted(chance.sample(range(12), size))) for _ in range(70)]
                self.look_at((1, RULES, (), wishes), sets)

    def test_all_fours_of_eight(self):
        house = (1, RULES, (), [(0, 1, 1)] * 8)
        sets = list(itertools.combinations(range(8), 4))
        self.assertEqual(len(sets), 70)
        self.assertEqual(self.look_at(house, sets)[0], (5,))

    def test_a_setting_loses_what_crosses_all_clashes(self):
        for handed in made_up_houses("lost crossings", 60, most_wishes=6):
            house = made_house(*handed)
            n, rules, musts, wishes = house
            places = range(len(wishes))
            clashes = [some for size in places for some in itertools.combinations(places, size + 1)
                       if not settings_keeping(n, rules, [*musts, *[wishes[place][0] for place in some]])]
            for setting in settings_keeping(n, rules, musts):
                lost = lost_by(house, setting)
                self.assertTrue(all(set(lost) & set(some) for some in clashes))
                self.assertGreaterEqual(weighed_by(house, lost), least_crossing(house, clashes)[0])


class CrossingShows(unittest.TestCase):

    def shows(self, tree, shown, house=HOUSE, sets=SETS):
        for handed in (list(sets), tuple(sets)):
            self.assertEqual(crossing_shows(house, handed, tree), shown)
        self.assertEqual(shown_by(house, sets, {}, tree), shown)

    def test_right_trees(self):
        self.shows(TREE, ("least", (0, 3)))
        self.shows(TREE[3], None)
        self.shows(("part", 0, TAKEN, ("part", 1, TAKEN, ("bare", 0))), ("least", (0, 3)))
        self.shows(("part", 1, TAKEN, TAKEN), ("least", (0, 0)))
        # 3 is in none of the sets, but it is a wish.
        self.shows(("part", 3, TAKEN, TREE), ("least", (0, 3)))

    def test_taken(self):
        self.shows(TAKEN, ("least", (0, 0)))
        self.shows(TAKEN, ("least", (0, 0)), sets=[])
        self.shows(TAKEN, ("least", ()), house=(1, RULES, (), []), sets=[])
        self.shows(("part", 0, ("part", 3, ("part", 2, TAKEN, TAKEN), TAKEN), ("part", 1, TAKEN, ("bare", 0))),
                   ("least", (0, 3)))
        self.shows(("part", 0, ("part", 3, TAKEN, TAKEN), ("part", 1, TAKEN, ("bare", 0))), ("least", (0, 3)))
        # What is left out weighs nothing.
        self.shows(("part", 0, TAKEN, ("part", 1, TAKEN, ("part", 2, ("bare", 0), ("bare", 0)))), ("least", (0, 3)))

    def test_bare(self):
        self.shows(("part", 0, TAKEN, ("part", 1, TAKEN, ("bare", 0))), ("least", (0, 3)))
        self.shows(("part", 0, TAKEN, ("part", 1, TAKEN, ("bare", 1))), None)

    def test_bare_with_a_wish_taken(self):
        self.shows(("part", 0, TAKEN, ("part", 1, ("bare", 0), ("bare", 0))), None)
        self.shows(("part", 0, ("bare", 0), ("part", 1, TAKEN, ("bare", 0))), None)
        self.shows(("part", 0, ("part", 1, TAKEN, ("bare", 0)), ("part", 1, TAKEN, ("bare", 0))), None)

    def test_bare_with_a_wish_undecided(self):
        self.shows(("bare", 0), None)
        self.shows(("part", 0, TAKEN, ("bare", 0)), None)
        self.shows(("part", 1, TAKEN, ("bare", 0)), None)
        self.shows(("part", 3, TAKEN, ("bare", 0)), None)

    def test_bare_of_no_set(self):
        # -1 would be the last set, if it were asked of a Python list.
        for at in (-1, -2, -3, 2, 3, 70, GREAT, -GREAT):
            self.shows(("bare", at), None)
            self.shows(("part", 2, TAKEN, ("part", 1, TAKEN, ("part", 0, TAKEN, ("bare", at)))), None)
        for at in (0, 1):
            self.shows(("part", 2, TAKEN, ("part", 1, TAKEN, ("part", 0, TAKEN, ("bare", at)))), ("least", (0, 3)))
        self.shows(("bare", 0), None, sets=[])

    def test_a_wish_decided_twice(self):
        again = ("part", 0, TAKEN, TAKEN)
        self.shows(("part", 0, again, TAKEN), None)
        self.shows(("part", 0, TAKEN, again), None)
        self.shows(("part", 1, again, again), ("least", (0, 0)))
        self.shows(("part", 0, ("part", 1, TAKEN, again), TAKEN), None)
        self.shows(("part", 0, TAKEN, ("part", 1, again, TAKEN)), None)

    def test_a_place_that_is_no_wish(self):
        for place in (-1, -4, 4, 5, 12, GREAT, -GREAT):
            self.shows(("part", place, TAKEN, TAKEN), None)
            self.shows(("part", 1, TAKEN, ("part", place, TAKEN, TAKEN)), None)
        self.shows(("part", 0, TAKEN, TAKEN), None, house=(1, RULES, (), []), sets=[])

    def test_the_lesser_of_two_sides(self):
        house = (1, RULES, (), [(0, 1, 2), (0, 1, 1)])
        self.shows(("part", 0, TAKEN, ("part", 1, TAKEN, ("bare", 0))), ("least", (1,)), house, [(0, 1)])
        self.shows(("part", 1, TAKEN, ("part", 0, TAKEN, ("bare", 0))), ("least", (1,)), house, [(0, 1)])

    def test_never_on_both_sides(self):
        never = ("part", 1, ("bare", 0), ("bare", 0))
        self.shows(("part", 0, TAKEN, never), ("least", (2, 0)), sets=[(0,)])
        self.shows(("part", 0, TAKEN, ("part", 3, never, never)), ("least", (2, 0)), sets=[(0,)])
        self.shows(("part", 0, TAKEN, ("part", 3, never, TAKEN)), ("least", (0, 0)), sets=[(0,)])

    def test_what_is_no_tree_for_a_crossing(self):
        self.assertIs(crossing_shows(HOUSE, SETS, ("lost", ())), None)
        self.assertIs(crossing_shows(HOUSE, SETS, ("part", 0, TAKEN, ("broken", 0))), None)
        self.assertIs(crossing_shows(HOUSE, SETS, ("part", 0, ("must", 0), TAKEN)), None)

    def test_twelve_deep(self):
        house = (1, RULES, (), [(0, 1, 1)] * 12)
        for place_at, shown in ((lambda deep: deep, ("least", (0,))), (lambda deep: deep % 11, None),
                                (lambda deep: deep + 1, None), (lambda deep: -GREAT, None)):
            tree = TAKEN
            for deep in range(12):
                tree = ("part", place_at(deep), tree, tree)
            self.assertEqual(crossing_shows(house, SETS, tree), shown)

    def test_made_up_trees(self):
        chance = random.Random("made-up crossing trees")
        many = {None: 0, True: 0, False: 0}
        for _ in range(1500):
            wishes = [(0, chance.randint(1, 2), chance.randint(1, 5)) for _ in range(chance.randint(1, 4))]
            house = (1, RULES, (), wishes)
            sets = made_up_sets(chance, len(wishes), 4, 3)
            tree = made_up_tree(chance, house, sets, {})
            shown = shown_by(house, sets, {}, tree)
            self.assertEqual(crossing_shows(house, sets, tree), shown)
            many[shown and any(shown[1])] += 1
            if shown is not None:
                for some in crossings_of(len(wishes), sets):
                    self.assertGreaterEqual(weighed_by(house, some), shown[1])
        self.assertGreater(min(many.values()), 50)

    def test_what_is_handed_in_stays(self):
        house, sets, tree = copy.deepcopy((HOUSE, SETS, TREE))
        crossing_shows(house, sets, tree)
        self.assertEqual((house, sets, tree), (HOUSE, SETS, TREE))


if __name__ == "__main__":
    unittest.main()

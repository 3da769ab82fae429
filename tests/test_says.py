"""10.1 to 10.3, with 0.2 and 0.6 so far as they reach what the best settings say."""

import copy
import unittest

from tests.helpers import best_by, kept_by, least_by, made_up_houses
from wishdues.errors import NoPeace
from wishdues.houses import made_house
from wishdues.losstrees import tree_shows
from wishdues.says import best_many, name_says, wish_says

BOTH = [("or", (1,)), ("or", (-1,))]
CLASHING = made_house(1, BOTH, (0, 1), [(0, 1, 1)])
# The first name must be yes, no is wished of the second, and just one of the third and fourth is wished to be yes.
HOUSE = made_house(4, [("or", (1,)), ("or", (-2,)), ("or", (3,)), ("or", (4,)), ("or", (-4, -3)), ("or", (-1,))],
                   (0, 4), [(1, 2, 3), (2, 1, 2), (3, 1, 2), (0, 1, 1), (5, 3, 4)])


class Says(unittest.TestCase):

    def look_at(self, house):
        """What is told of names and of wishes, each held against all best settings."""
        ahead = copy.deepcopy(house)
        self.assertEqual(best_many(house), len(best_by(house)))
        names, wishes = name_says(house), wish_says(house)
        self.assertEqual(house, ahead)
        for ask, told in ((name_says, names), (wish_says, wishes)):
            self.assertIs(type(told), list)
            self.assertEqual(ask(house), told)
            told.append("more")
            self.assertEqual(ask(house), told[:-1])
            told.pop()
        self.assertEqual((len(names), len(wishes)), (house[0], len(house[3])))
        for name, told in enumerate(names, 1):
            self.look_at_name(house, name, told)
        for wish, told in zip(house[3], wishes):
            self.look_at_wish(house, wish[0], told)
        return [told[0] for told in names], [told[0] for told in wishes]

    def look_at_name(self, house, name, told):
        best = best_by(house)
        said = {setting[name - 1] for setting in best}
        self.assertIs(type(told), tuple)
        if said == {0, 1}:
            word, no, yes = told
            self.assertEqual((word, no[name - 1], yes[name - 1]), ("both", 0, 1))
            self.assertTrue({no, yes} <= set(best))
            return
        word, setting, tree = told
        self.assertEqual(word, "yes" if said == {1} else "no")
        self.assertIn(setting, best)
        self.greater(house, ("or", (-name if word == "yes" else name,)), tree)

    def look_at_wish(self, house, number, told):
        best = best_by(house)
        said = {kept_by(house[1], number, setting) for setting in best}
        self.assertIs(type(told), tuple)
        if len(said) == 2:
            word, kept, broken = told
            self.assertEqual(word, "some")
            self.assertTrue({kept, broken} <= set(best))
            self.assertTrue(kept_by(house[1], number, kept))
            self.assertFalse(kept_by(house[1], number, broken))
            return
        word, setting, tree = told
        self.assertEqual(word, "all" if said == {True} else "none")
        self.assertIn(setting, best)
        self.greater(house, ("not", number) if word == "all" else ("few", 0, (number,)), tree)

    def greater(self, house, rule, tree):
        """The tree shows of the house with a rule more, a must too, never or greater losses."""
        n, rules, musts, wishes = house
        shown = tree_shows((n, [*rules, rule], (*musts, len(rules)), wishes), tree)
        self.assertIsNotNone(shown)
        self.assertTrue(shown == ("never",) or shown > ("least", least_by(house)))

    def test_each_word(self):
        self.assertEqual(self.look_at(HOUSE), (["yes", "no", "both", "both"], ["all", "some", "some", "all", "none"]))

    def test_a_house_by_hand(self):
        house = made_house(1, BOTH, (), [(0, 1, 2), (1, 1, 1)])
        self.assertEqual(best_many(house), 1)
        self.assertEqual([told[:2] for told in name_says(house)], [("yes", (1,))])
        self.assertEqual([told[:2] for told in wish_says(house)], [("all", (1,)), ("none", (1,))])
        shown = tree_shows((1, [*BOTH, ("or", (-1,))], (2,), house[3]), name_says(house)[0][2])
        self.assertEqual(shown, ("least", (2,)))
        self.assertEqual(name_says(made_house(1, BOTH, (), ())), [("both", (0,), (1,))])

    def test_a_must_of_a_house_says_never_of_its_other_word(self):
        house = made_house(1, BOTH, (0,), [(0, 1, 1), (1, 1, 1)])
        self.assertEqual(tree_shows((1, [*BOTH, ("or", (-1,))], (0, 2), house[3]), name_says(house)[0][2]), ("never",))
        self.assertEqual(self.look_at(house), (["yes"], ["all", "none"]))

    def test_of_no_names(self):
        house = made_house(0, [("or", ()), ("not", 0)], (1,), [(0, 1, 1), (1, 2, 1)])
        self.assertEqual(self.look_at(house), ([], ["none", "all"]))
        self.assertEqual((best_many(house), name_says(house)), (1, []))

    def test_of_no_wishes(self):
        for n in range(9):
            house = made_house(n, [], (), ())
            self.assertEqual(self.look_at(house), (["both"] * n, []))
        self.assertEqual(self.look_at(made_house(2, [("or", (-2,))], (0,), ())), (["both", "no"], []))

    def test_many_best_settings(self):
        self.assertEqual(best_many(made_house(8, [], (), ())), 256)
        self.assertEqual(best_many(made_house(8, [("or", (1, 2))], (0,), ())), 192)
        self.assertIs(type(best_many(HOUSE)), int)
        self.assertEqual(best_many(HOUSE), 2)

    def test_musts_that_clash(self):
        for house in (CLASHING, (*CLASHING[:3], []), made_house(0, [("or", ())], (0,), ())):
            ahead = copy.deepcopy(house)
            for ask in (best_many, name_says, wish_says):
                with self.assertRaises(NoPeace):
                    ask(house)
            self.assertEqual(house, ahead)

    def test_houses_of_many_rules(self):
        rows = [("or", (name, -1 - name % 8)) for name in range(1, 9)] + [("or", (-name,)) for name in range(1, 9)]
        rows += [("few", 2, (8, 9, 10)), ("not", 16), ("few", 5, tuple(range(16))), ("or", ()), ("not", 19)]
        rows += [("or", (1, 8)), ("few", 1, (0, 21))]
        for many in (22, 23):
            wishes = [(number, 1 + number % 4, 1 + number) for number in range(8, 20)]
            self.look_at(made_house(8, rows[:many], (17, 20), wishes))

    def test_great_weights(self):
        most = 10 ** 30
        house = made_house(1, BOTH, (), [(0, 1, most), (1, 1, most - 1), (1, 1, 1), (0, 2, 1)])
        self.assertEqual(self.look_at(house), (["yes"], ["all", "none", "none", "all"]))

    def test_made_up_houses(self):
        words = {}
        alike = [(*handed[:3], [(number, 1, 1) for number, _, _ in handed[3]])
                 for handed in made_up_houses("alike", 250)]
        for handed in made_up_houses("says", 200, most_wishes=12) + alike:
            house = made_house(*handed)
            if least_by(house) is not None:
                for word in sum(self.look_at(house), []):
                    words[word] = words.get(word, 0) + 1
        self.assertEqual(sorted(words), ["all", "both", "no", "none", "some", "yes"])
        self.assertGreater(min(words.values()), 5)


if __name__ == "__main__":
    unittest.main()

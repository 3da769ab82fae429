"""10.4, with 0.2 and 0.6 so far as they reach the nearest best setting."""

import copy
import random
import unittest

from tests.helpers import best_by, least_by, made_up_houses, settings_of
from wishdues.errors import NoPeace
from wishdues.houses import made_house
from wishdues.losstrees import loss_tree
from wishdues.nearest import nearest_best, with_elder

BOTH = [("or", (1,)), ("or", (-1,))]
CLASHING = made_house(1, BOTH, (0, 1), [(0, 1, 1)])


def otherwise(setting, elder):
    return sum(mark != other for mark, other in zip(setting, elder, strict=True))


class WithElder(unittest.TestCase):

    def test_with_wishes(self):
        rules = [("or", (1, 2)), ("not", 0), ("few", 0, (0, 1))]
        house = made_house(3, rules, (0,), [(0, 2, 5), (1, 1, 7)])
        self.assertEqual(with_elder(house, (1, 0, 0)),
                         (3, [*rules, ("or", (1,)), ("or", (-2,)), ("or", (-3,))], (0,),
                          [(0, 2, 5), (1, 1, 7), (3, 3, 1), (4, 3, 1), (5, 3, 1)]))

    def test_without_wishes(self):
        self.assertEqual(with_elder(made_house(2, BOTH, (1,), ()), (0, 1)),
                         (2, [*BOTH, ("or", (-1,)), ("or", (2,))], (1,), [(2, 1, 1), (3, 1, 1)]))
        self.assertEqual(with_elder(made_house(1, [], (), ()), (1,)), (1, [("or", (1,))], (), [(0, 1, 1)]))

    def test_of_no_names(self):
        house = made_house(0, [("or", ())], (), [(0, 3, 4)])
        self.assertEqual(with_elder(house, ()), house)
        self.assertEqual(with_elder(made_house(0, [], (), ()), ()), (0, [], (), []))

    def test_what_is_told_is_a_house_and_the_askers_own(self):
        for handed in made_up_houses("elder", 60, most_wishes=4):
            house = made_house(*handed[:3], [(number, min(rank, 3), weight) for number, rank, weight in handed[3]])
            ahead = copy.deepcopy(house)
            for elder in settings_of(house[0]):
                told = with_elder(house, elder)
                self.assertEqual([type(thing) for thing in (told, *told)], [tuple, int, list, tuple, list])
                self.assertEqual(made_house(*told), told)
                self.assertEqual(with_elder(house, elder), told)
                told[1].append("more")
                told[3].append("more")
                self.assertEqual(house, ahead)
                self.assertEqual(made_house(*with_elder(house, elder)), with_elder(house, elder))


class NearestBest(unittest.TestCase):

    def look_at(self, house, elder):
        ahead = copy.deepcopy(house)
        told = nearest_best(house, elder)
        self.assertEqual(house, ahead)
        self.assertEqual(nearest_best(house, elder), told)
        self.assertEqual([type(thing) for thing in (told, *told)], [tuple, int, tuple])
        best = best_by(house)
        few = min(otherwise(setting, elder) for setting in best)
        self.assertEqual(told, (few, min(setting for setting in best if otherwise(setting, elder) == few)))
        return told

    def test_some_houses(self):
        house = made_house(3, [("or", (1, 2)), ("or", (-2, -1)), ("or", (3,))], (0, 1), [(2, 1, 4)])
        self.assertEqual(self.look_at(house, (0, 0, 0)), (2, (0, 1, 1)))
        self.assertEqual(self.look_at(house, (1, 1, 1)), (1, (0, 1, 1)))
        self.assertEqual(self.look_at(house, (1, 0, 0)), (1, (1, 0, 1)))
        self.assertEqual(self.look_at(house, (1, 0, 1)), (0, (1, 0, 1)))

    def test_a_best_setting_goes_ahead_of_a_nearer_one(self):
        house = made_house(3, [("or", (1,)), ("or", (2,)), ("or", (3,))], (), [(0, 4, 1), (1, 4, 1), (2, 1, 1)])
        self.assertEqual(self.look_at(house, (0, 0, 0)), (3, (1, 1, 1)))

    def test_of_no_names(self):
        self.assertEqual(self.look_at(made_house(0, [("or", ())], (), [(0, 1, 1)]), ()), (0, ()))
        self.assertEqual(self.look_at(made_house(0, [], (), ()), ()), (0, ()))

    def test_of_no_rules(self):
        for elder in settings_of(8)[::17]:
            self.assertEqual(self.look_at(made_house(8, [], (), ()), elder), (0, elder))

    def test_houses_of_24_rules_and_12_wishes(self):
        rows = [("or", (1 + at % 8, -1 - (at + 3) % 8)) for at in range(24)]
        house = made_house(8, rows, (0, 7), [(2 * at, 1 + at % 4, 10 ** 30 - at) for at in range(12)])
        for elder in settings_of(8)[::15]:
            self.look_at(house, elder)

    def test_musts_that_clash(self):
        for elder in settings_of(1):
            with self.assertRaises(NoPeace):
                nearest_best(CLASHING, elder)
        with self.assertRaises(NoPeace):
            nearest_best(made_house(0, [("or", ())], (0,), ()), ())

    def test_losses_with_the_elder_setting(self):
        chance = random.Random("near")
        seen = set()
        for handed in made_up_houses("near", 200, most_wishes=8):
            house = made_house(*handed[:3], [(number, min(rank, 3), weight) for number, rank, weight in handed[3]])
            least = least_by(house)
            if least is None:
                continue
            for elder in chance.sample(settings_of(house[0]), min(4, 1 << house[0])):
                many, setting = self.look_at(house, elder)
                seen.add(many)
                told = loss_tree(with_elder(house, elder))
                self.assertEqual(told[1:3], ((*least, many) if house[0] else least, setting))
        self.assertTrue({0, 1, 2, 3} <= seen)


if __name__ == "__main__":
    unittest.main()

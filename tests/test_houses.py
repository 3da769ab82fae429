"""4.1 to 4.3, with 0.2, 0.4 and 0.5 so far as they reach houses and losses."""

import copy
import itertools
import unittest

from tests.helpers import kept_by, lost_by, made_up_houses, settings_keeping, settings_of, weighed_by
from wishdues.errors import BadMust, BadRule, BadWish, NoNames
from wishdues.houses import (best_settings, house_losses, keeps_musts, lost_wishes, made_house, wishes_losses)

GREAT = int("9" * 60)
HEAVY = 10 ** 30
ROWS = [("or", (1,)), ("or", (2,)), ("or", (-2, -1)), ("not", 0)]
# What is no whole number, or none that could stand in any place.
NO_NUMBERS = (True, False, None, "", "0", "1", b"0", (), (0,), [], [0], {}, {0: 0}, {0}, frozenset(), object(), int,
              len, 1j, GREAT, -GREAT)
NO_ROWS = (None, True, 0, 7, "", "or", b"", {}, {0: 0}, set(), frozenset(), object(), range(2), iter([]))


class MadeHouse(unittest.TestCase):

    def test_of_lists_and_of_tuples(self):
        house = (2, [("or", (1,)), ("or", (2,)), ("or", (-2, -1)), ("not", 0)], (0, 2), [(1, 1, 3), (3, 2, 1)])
        for kind in (list, tuple):
            rows = kind(["or", kind(row[1])] if row[0] == "or" else kind(row) for row in ROWS)
            told = made_house(2, rows, kind((0, 2)), kind((kind((1, 1, 3)), kind((3, 2, 1)))))
            self.assertEqual(told, house)
            self.assertEqual([type(thing) for thing in told], [int, list, tuple, list])
            self.assertEqual({type(thing) for thing in told[1] + told[3]}, {tuple})

    def test_musts_in_any_order(self):
        for size in range(5):
            for musts in itertools.permutations(range(4), size):
                self.assertEqual(made_house(2, ROWS, musts, ())[2], tuple(sorted(musts)))
                self.assertEqual(made_house(2, ROWS, list(musts), ())[2], tuple(sorted(musts)))

    def test_wishes_in_their_own_order(self):
        wishes = [(3, 4, 1), (0, 1, HEAVY), (3, 1, 7), (0, 1, HEAVY), (1, 4, 1)]
        self.assertEqual(made_house(2, ROWS, (), wishes)[3], wishes)
        self.assertEqual(made_house(2, ROWS, (), wishes[::-1])[3], wishes[::-1])

    def test_several_wishes_of_one_rule(self):
        wishes = [(2, 1, 1)] * 12
        self.assertEqual(made_house(2, ROWS, (2,), wishes)[3], wishes)

    def test_the_edges(self):
        for wish in itertools.product((0, 3), (1, 4), (1, HEAVY)):
            self.assertEqual(made_house(2, ROWS, (0, 3), [wish])[3], [wish])
        self.assertEqual(made_house(0, (), (), ()), (0, [], (), []))
        self.assertEqual(made_house(8, [], [], []), (8, [], (), []))
        rows = [("or", (8,))] * 24
        self.assertEqual(made_house(8, rows, range_of(24), [(23, 1, 1)] * 12), (8, rows, range_of(24), [(23, 1, 1)] * 12))

    def refused(self, error, at, *handed):
        with self.assertRaises(error) as caught:
            made_house(*handed)
        self.assertIs(type(caught.exception), error)
        if at is not None:
            self.assertEqual(caught.exception.at, at)

    def test_names(self):
        for n in (-1, 9, *NO_NUMBERS):
            self.refused(NoNames, None, n, ROWS, (), ())
            self.refused(NoNames, None, n, None, None, None)

    def test_rules(self):
        for rows in NO_ROWS:
            self.refused(BadRule, -1, 2, rows, None, None)
        self.refused(BadRule, 0, 2, [None], None, None)
        self.refused(BadRule, 0, 2, [("or", (3,))], None, None)
        self.refused(BadRule, 4, 2, [*ROWS, ("not", 4)], (9,), (9,))
        self.refused(BadRule, 24, 2, [("or", ())] * 25, None, None)

    def test_musts_that_are_no_row(self):
        for musts in NO_ROWS:
            self.refused(BadMust, -1, 2, ROWS, musts, ())
            self.refused(BadMust, -1, 2, ROWS, musts, None)

    def test_a_bad_must(self):
        for bad in (-1, 4, 24, *NO_NUMBERS):
            self.refused(BadMust, 0, 2, ROWS, [bad], [])
            self.refused(BadMust, 0, 2, ROWS, [bad, bad], None)
            self.refused(BadMust, 2, 2, ROWS, (3, 0, bad, 1), [None])
        self.refused(BadMust, 0, 2, [], (0,), ())

    def test_a_must_twice(self):
        self.refused(BadMust, 1, 2, ROWS, (0, 0), ())
        self.refused(BadMust, 2, 2, ROWS, (3, 0, 3, 3), None)
        self.refused(BadMust, 3, 2, ROWS, [3, 2, 1, 2, None], [])
        self.refused(BadMust, 4, 2, ROWS, [3, 2, 1, 0, 4], [])

    def test_wishes_that_are_no_row(self):
        for wishes in NO_ROWS:
            self.refused(BadWish, -1, 2, ROWS, (1,), wishes)

    def test_a_bad_wish(self):
        good = (0, 1, 1)
        wrong = [(), (0,), (0, 1), (0, 1, 1, 1), [0, 1], [0, 1, 1, 1], "011", "wish", {0: 0, 1: 1, 2: 2}, {0, 1, 2},
                 b"\x00\x01\x01"]
        for bad in (*wrong, *NO_ROWS, *NO_NUMBERS):
            self.refused(BadWish, 0, 2, ROWS, (), [bad])
            self.refused(BadWish, 2, 2, ROWS, (), (good, [3, 4, HEAVY], bad, bad))

    def test_bad_numbers_in_a_wish(self):
        for at, bounds in enumerate(((-1, 4), (0, 5, -1), (0, -1, HEAVY + 1))):
            for bad in (*bounds, *NO_NUMBERS):
                wish = [0, 1, 1]
                wish[at] = bad
                for kind in (list, tuple):
                    self.refused(BadWish, 0, 2, ROWS, (), [kind(wish)])
                    self.refused(BadWish, 3, 2, ROWS, (), [(0, 1, 1)] * 3 + [kind(wish)])
        self.refused(BadWish, 0, 2, [], (), [(0, 1, 1)])

    def test_the_thirteenth_wish(self):
        self.refused(BadWish, 12, 2, ROWS, (), [(0, 1, 1)] * 13)
        self.refused(BadWish, 12, 2, ROWS, (), ((0, 1, 1),) * 20)
        self.refused(BadWish, 12, 2, ROWS, (), [(0, 1, 1)] * 12 + [None])
        self.refused(BadWish, 11, 2, ROWS, (), [(0, 1, 1)] * 11 + [None] + [(0, 1, 1)] * 4)

    def test_what_is_handed_in_is_neither_changed_nor_kept(self):
        handed = [[["or", [2, 1]], ["few", 1, [0]], ["not", 1]], [2, 0], [[0, 1, 3], [1, 2, 4]]]
        ahead = copy.deepcopy(handed)
        told = made_house(2, *handed)
        kept = copy.deepcopy(told)
        self.assertEqual(handed, ahead)
        handed[0][0][1].append(9)
        handed[0].append(None)
        handed[1].append(1)
        handed[2][0][2] = 9
        handed[2].append(None)
        self.assertEqual(told, kept)
        told[1].append(None)
        told[3].append(None)
        self.assertEqual(made_house(2, *ahead), kept)

    def test_a_house_handed_in_again(self):
        for handed in made_up_houses("again", 40):
            house = made_house(*handed)
            self.assertEqual(made_house(*house), house)


def range_of(many):
    return tuple(range(many))


class Losses(unittest.TestCase):

    house = (2, [("or", (1,)), ("or", (2,)), ("or", (-2, -1)), ("not", 0)], (2,),
             [(0, 1, 5), (1, 3, 7), (0, 3, HEAVY), (3, 3, 2), (2, 1, 1)])

    def test_of_settings(self):
        self.assertEqual(house_losses(self.house, (0, 0)), (5, 0, 7 + HEAVY))
        self.assertEqual(house_losses(self.house, (0, 1)), (5, 0, HEAVY))
        self.assertEqual(house_losses(self.house, (1, 0)), (0, 0, 9))
        # The last one breaks a must, and has its losses none the less.
        self.assertEqual(house_losses(self.house, (1, 1)), (1, 0, 2))
        self.assertEqual(lost_wishes(self.house, (0, 0)), (0, 1, 2))
        self.assertEqual(lost_wishes(self.house, (0, 1)), (0, 2))
        self.assertEqual(lost_wishes(self.house, (1, 0)), (1, 3))
        self.assertEqual(lost_wishes(self.house, (1, 1)), (3, 4))
        self.assertEqual([keeps_musts(self.house, setting) for setting in settings_of(2)], [True, True, True, False])

    def test_of_wishes(self):
        self.assertEqual(wishes_losses(self.house, ()), (0, 0, 0))
        self.assertEqual(wishes_losses(self.house, (0,)), (5, 0, 0))
        self.assertEqual(wishes_losses(self.house, (1, 2)), (0, 0, 7 + HEAVY))
        self.assertEqual(wishes_losses(self.house, (0, 1, 2, 3, 4)), (6, 0, 9 + HEAVY))

    def test_ranks_without_a_wish(self):
        rules = [("or", (1,)), ("or", (-1,))]
        self.assertEqual(house_losses((1, rules, (), [(0, 4, 3)]), (0,)), (0, 0, 0, 3))
        self.assertEqual(house_losses((1, rules, (), [(0, 4, 3)]), (1,)), (0, 0, 0, 0))
        self.assertEqual(house_losses((1, rules, (), [(0, 1, 3)]), (0,)), (3,))
        self.assertEqual(house_losses((1, rules, (), [(0, 3, 3), (1, 1, 2)]), (0,)), (0, 0, 3))
        self.assertEqual(house_losses((1, rules, (), [(0, 3, 3), (1, 1, 2)]), (1,)), (2, 0, 0))

    def test_without_wishes(self):
        house = (1, [("or", (1,))], (0,), [])
        for setting in settings_of(1):
            self.assertEqual(house_losses(house, setting), ())
            self.assertEqual(lost_wishes(house, setting), ())
        self.assertEqual(wishes_losses(house, ()), ())
        self.assertEqual(best_settings(house), [(1,)])

    def test_without_musts_or_names(self):
        self.assertIs(keeps_musts((1, [("or", ())], (), []), (0,)), True)
        self.assertIs(keeps_musts((0, [("or", ())], (0,), []), ()), False)
        self.assertEqual(best_settings((0, [], (), [])), [()])
        self.assertEqual(best_settings((0, [("or", ())], (), [(0, 2, 3)])), [()])
        self.assertEqual(house_losses((0, [("or", ())], (), [(0, 2, 3)]), ()), (0, 3))

    def test_over_all_settings_of_made_up_houses(self):
        for handed in made_up_houses("losses", 120):
            house = made_house(*handed)
            for setting in settings_of(house[0]):
                lost = lost_wishes(house, setting)
                self.assertIs(type(lost), tuple)
                self.assertEqual(lost, lost_by(house, setting))
                losses = house_losses(house, setting)
                self.assertIs(type(losses), tuple)
                self.assertEqual(losses, weighed_by(house, lost))
                self.assertEqual(wishes_losses(house, lost), losses)
                self.assertIs(keeps_musts(house, setting),
                              all(kept_by(house[1], number, setting) for number in house[2]))

    def test_what_is_handed_in_stays(self):
        house, ahead = copy.deepcopy(self.house), copy.deepcopy(self.house)
        for _ in range(2):
            for setting in settings_of(2):
                house_losses(house, setting)
                lost_wishes(house, setting)
                keeps_musts(house, setting)
            wishes_losses(house, (0, 1))
            best_settings(house)
        self.assertEqual(house, ahead)


class BestSettings(unittest.TestCase):

    def test_the_first_rank_goes_ahead(self):
        rules = [("or", (1,)), ("or", (-1,))]
        self.assertEqual(best_settings((1, rules, (), [(0, 1, 1), (1, 2, HEAVY)])), [(1,)])
        self.assertEqual(best_settings((1, rules, (), [(0, 2, HEAVY), (1, 1, 1)])), [(0,)])
        self.assertEqual(best_settings((1, rules, (), [(0, 1, 1), (1, 1, 1), (0, 4, 1)])), [(1,)])

    def test_all_that_lose_as_little(self):
        rules = [("or", (1,)), ("or", (-1,)), ("or", (2, 3))]
        self.assertEqual(best_settings((1, rules[:2], (), [(0, 1, 2), (1, 1, 2)])), [(0,), (1,)])
        self.assertEqual(best_settings((3, rules, (1,), [(0, 1, 2), (2, 1, 2)])), [(0, 0, 1), (0, 1, 0), (0, 1, 1)])

    def test_none_where_the_musts_clash(self):
        rules = [("or", (1,)), ("or", (-1,))]
        self.assertEqual(best_settings((1, rules, (0, 1), [(0, 1, 2)])), [])
        self.assertEqual(best_settings((1, rules, (0, 1), [])), [])
        self.assertEqual(best_settings((0, [("or", ())], (0,), [])), [])

    def test_all_settings_gone_through(self):
        many = [0, 0]
        for handed in made_up_houses("best", 200):
            house = made_house(*handed)
            settings = settings_keeping(house[0], house[1], house[2])
            losses = {setting: weighed_by(house, lost_by(house, setting)) for setting in settings}
            best = [setting for setting in settings if all(losses[setting] <= other for other in losses.values())]
            self.assertEqual(best_settings(house), best)
            many[bool(best)] += 1
        self.assertGreater(min(many), 20)

    def test_what_is_told_is_the_askers_own(self):
        house = (1, [("or", (1,))], (), [(0, 1, 1)])
        told = best_settings(house)
        self.assertIs(type(told), list)
        told.append("more")
        told[0] = "other"
        self.assertEqual(best_settings(house), [(1,)])


if __name__ == "__main__":
    unittest.main()

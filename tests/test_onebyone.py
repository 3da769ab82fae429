"""6.1, 6.3 and 6.4, with 0.2, 0.3 and 0.6 so far as they reach clashes told one by one."""

import copy
import itertools
import random
import unittest

from tests.helpers import (least_by, lost_by, made_up_houses, open_names, settings_keeping, settings_of, tree_by,
                           weighed_by)
from wishdues.crossings import crossing_shows, least_crossing
from wishdues.houses import made_house
from wishdues.onebyone import told_bounds, told_clashes, told_right

GREAT = int("9" * 60)
TAKEN = ("taken",)
# One of two names must be yes, one of three no; wishes for no of each, and once more of the second.
HOUSE = made_house(3, [("or", (1, 2)), ("or", (-3, -2)), ("or", (-1,)), ("or", (-2,)), ("or", (3,))], (0, 1),
                   [(2, 1, 2), (3, 1, 1), (4, 2, 5), (3, 2, 7)])
FIRST = ("part", 1, ("part", 2, ("broken", 0), ("broken", 3)), ("broken", 2))
SECOND = ("part", 1, ("part", 2, ("broken", 0), ("part", 3, ("broken", 4), ("broken", 1))), ("broken", 2))
# The wishes 0 and 1 clash, 0 and 3, and 0 and 2; what is lost is 0, or 1, 2 and 3.
ROWS = [((0, 1), FIRST), ((0, 3), FIRST), ((0, 2), SECOND)]
CROSSING = ("part", 0, TAKEN, ("part", 1, ("part", 2, ("part", 3, TAKEN, ("bare", 1)), ("bare", 2)), ("bare", 0)))
BEST = ("best", (1, 12), (0, 1, 0), ROWS, CROSSING)
CLASHING = made_house(1, [("or", (1,)), ("or", (-1,))], (0, 1), [(0, 1, 1), (1, 1, 1)])
CLASH = ("part", 1, ("broken", 0), ("broken", 1))


def row_numbers(house, places):
    return {*house[2], *[house[3][place][0] for place in places]}


def right_by(house, told):
    """Whether a told tuple is right, straight after 6.3 (but for its last tree, which 6.2 has judged)."""
    n, rules, musts, wishes = house
    if told[0] == "never":
        return tree_by(rules, musts, open_names(n), told[1])
    _, losses, setting, rows, tree = told
    sets = [places for places, _ in rows]
    return (setting in settings_keeping(n, rules, musts) and weighed_by(house, lost_by(house, setting)) == losses
            and all(places and list(places) == sorted(set(places)) and set(places) <= set(range(len(wishes)))
                    and tree_by(rules, row_numbers(house, places), open_names(n), clash) for places, clash in rows)
            and len(set(sets)) == len(sets) and crossing_shows(house, sets, tree) == ("least", losses))


class ToldClashes(unittest.TestCase):

    def look_at(self, house):
        ahead = copy.deepcopy(house)
        told = told_clashes(house)
        self.assertIs(type(told), tuple)
        self.assertEqual(house, ahead)
        self.assertEqual(told_clashes(house), told)
        self.assertTrue(right_by(house, told))
        self.assertIs(told_right(house, told), True)
        least = least_by(house)
        if least is None:
            self.assertEqual((told[0], len(told)), ("never", 2))
            return told
        self.assertEqual(told[:2], ("best", least))
        self.assertEqual([type(thing) for thing in told[1:]], [tuple, tuple, list, tuple])
        for row in told[3]:
            self.assertEqual([type(thing) for thing in (row, *row)], [tuple] * 3)
        self.assertIs(told_right(house, (*told[:3], tuple(told[3]), told[4])), True)
        return told

    def test_some_houses(self):
        self.assertEqual(self.look_at(HOUSE)[:3], ("best", (1, 12), (0, 1, 0)))
        rules = [("or", (1,)), ("or", (-1,))]
        self.assertEqual(self.look_at(made_house(1, rules, (), [(0, 1, 2), (1, 1, 3)]))[:3], ("best", (2,), (0,)))
        self.assertEqual(self.look_at(made_house(1, rules, (0,), [(1, 2, 3)]))[:3], ("best", (0, 3), (1,)))

    def test_of_no_wishes(self):
        for n in range(9):
            told = self.look_at(made_house(n, [], (), ()))
            self.assertEqual((told[1], len(told[2]), told[3:]), ((), n, ([], TAKEN)))
        self.assertEqual(self.look_at(made_house(2, [("or", (1,))], (0,), ()))[3:], ([], TAKEN))

    def test_of_no_names(self):
        self.assertEqual(self.look_at(made_house(0, [], (), ())), ("best", (), (), [], TAKEN))
        rules = [("or", ()), ("not", 0)]
        told = self.look_at(made_house(0, rules, (1,), [(0, 1, 3), (1, 2, 4)]))
        self.assertEqual(told[:4], ("best", (3, 0), (), [((0,), ("broken", 0))]))
        self.assertEqual(self.look_at(made_house(0, rules, (0,), [(1, 1, 1)])), ("never", ("broken", 0)))

    def test_musts_that_clash(self):
        self.assertEqual(self.look_at(CLASHING)[0], "never")
        self.assertEqual(self.look_at((*CLASHING[:3], []))[0], "never")

    def test_wishes_of_musts_and_of_one_rule(self):
        rules = [("or", (1,)), ("or", (-1,))]
        self.assertEqual(self.look_at(made_house(1, rules, (0,), [(0, 1, 1)]))[:4], ("best", (0,), (1,), []))
        told = self.look_at(made_house(1, rules, (0,), [(0, 1, 1), (1, 1, 2), (0, 2, 1), (1, 2, 3), (1, 1, 5)]))
        self.assertEqual(told[1], (7, 3))
        self.assertEqual(sorted(places for places, _ in told[3]), [(1,), (3,), (4,)])
        self.assertEqual(self.look_at(made_house(1, rules, (), [(0, 1, 1)] * 4 + [(1, 1, 1)] * 4))[1], (4,))
        self.assertEqual(self.look_at(made_house(1, rules, (), [(1, 1, 1), (0, 1, 1)] * 3 + [(1, 1, 1)]))[1], (3,))

    def test_made_up_houses(self):
        many = {"best": 0, "never": 0}
        most = 0
        for handed in made_up_houses("one by one", 300):
            told = self.look_at(made_house(*handed))
            many[told[0]] += 1
            most = max(most, len(told[3]) if told[0] == "best" else 0)
        self.assertGreater(min(many.values()), 20)
        self.assertGreater(most, 3)

    def test_eight_wishes_any_four_of_which_clash(self):
        rules = [("or", (name,)) for name in range(1, 9)] + [("few", 4, tuple(range(8))), ("not", 8)]
        for wishes in ([(place, 1, 1) for place in range(8)], [(place, 1 + place % 2, 9 - place) for place in range(8)],
                       [(place, 1, 10 ** 30 - place) for place in range(8)]):
            told = self.look_at(made_house(8, rules, (9,), wishes))
            self.assertLessEqual(len(told[3]), 70)

    def test_what_is_told_is_the_askers_own(self):
        told = told_clashes(HOUSE)
        kept = copy.deepcopy(told)
        told[3].append("more")
        told[3][0] = "other"
        self.assertEqual(told_clashes(HOUSE), kept)


class ToldRight(unittest.TestCase):

    def judged(self, told, right, house=HOUSE):
        for _ in range(2):
            self.assertIs(told_right(house, told), right)
        self.assertIs(right_by(house, told), right)
        if told[0] == "best":
            self.assertIs(told_right(house, (*told[:3], tuple(told[3]), told[4])), right)

    def wrong(self, told, house=HOUSE):
        self.judged(told, False, house)

    def test_right_ones(self):
        self.judged(BEST, True)
        self.judged(("never", CLASH), True, CLASHING)
        self.judged(("best", (), (1,), [], TAKEN), True, made_house(1, [("or", (1,))], (0,), ()))
        self.judged(("best", (0,), (1,), [], TAKEN), True, made_house(1, [("or", (1,))], (0,), [(0, 1, 1)]))

    def test_rows_in_any_order_and_more_than_needed(self):
        for order in itertools.permutations(range(3)):
            bare = {0: order.index(0), 1: order.index(1), 2: order.index(2)}
            tree = ("part", 0, TAKEN, ("part", 1, ("part", 2, ("part", 3, TAKEN, ("bare", bare[1])),
                                                   ("bare", bare[2])), ("bare", bare[0])))
            self.judged((*BEST[:3], [ROWS[at] for at in order], tree), True)
        self.judged((*BEST[:3], [*ROWS, ((0, 1, 2, 3), FIRST)], CROSSING), True)

    def test_changed_losses(self):
        for losses in ((), (1,), (1, 12, 0), (0, 12), (2, 12), (1, 11), (1, 13), (2, 0), (12, 1), (-1, 12),
                       (GREAT, 12), (1, -GREAT)):
            self.wrong(("best", losses, *BEST[2:]))

    def test_losses_that_the_setting_has_but_the_tree_does_not_show(self):
        self.wrong(("best", (2, 0), (1, 0, 1), *BEST[3:]))
        self.wrong(("best", (2, 5), (1, 0, 0), *BEST[3:]))
        self.wrong((*BEST[:4], ("part", 0, TAKEN, TAKEN)))
        self.wrong((*BEST[:4], TAKEN))

    def test_losses_that_the_tree_shows_but_the_setting_does_not_have(self):
        for setting in settings_of(3):
            self.judged(("best", (1, 12), setting, *BEST[3:]), setting == (0, 1, 0))

    def test_a_setting_that_breaks_a_must(self):
        house = (*HOUSE[:3], [(2, 1, 2)])
        rows, tree = [], TAKEN
        self.judged(("best", (0,), (0, 1, 0), rows, tree), True, house)
        self.wrong(("best", (0,), (0, 0, 0), rows, tree), house)
        self.wrong(("best", (0,), (0, 1, 1), rows, tree), house)

    def test_a_setting_of_another_form(self):
        for bad in ((), (0, 1), (0, 1, 0, 0), (0, 1, 2), (2, 1, 0), (0, -1, 0), (0, 1, GREAT), (-GREAT, 1, 0)):
            self.wrong((*BEST[:2], bad, *BEST[3:]))
        # No rule speaks of the second name.
        house = made_house(2, [("or", (1,))], (0,), ())
        self.judged(("best", (), (1, 1), [], TAKEN), True, house)
        for bad in (2, -1, GREAT):
            self.wrong(("best", (), (1, bad), [], TAKEN), house)

    def test_a_row_left_out(self):
        for at in range(3):
            self.wrong((*BEST[:3], ROWS[:at] + ROWS[at + 1:], CROSSING))
        self.wrong((*BEST[:3], [], CROSSING))

    def test_a_row_twice(self):
        for at in range(3):
            self.wrong((*BEST[:3], [*ROWS, ROWS[at]], CROSSING))
        other = ("part", 2, ("part", 1, ("broken", 0), ("broken", 2)), ("broken", 3))
        self.wrong((*BEST[:3], [*ROWS, ((0, 1), other)], CROSSING))
        self.judged((*BEST[:3], [((0, 1), other), *ROWS[1:]], CROSSING), True)

    def test_an_empty_row(self):
        self.wrong((*BEST[:3], [*ROWS, ((), FIRST)], CROSSING))
        # Even where a tree is right for the musts alone, as these clash.
        self.wrong(("best", (1,), (0,), [((), CLASH)], TAKEN), CLASHING)

    def test_an_empty_row_whose_tree_is_right(self):
        house = made_house(1, [("or", (1,)), ("or", (-1,))], (0, 1), ())
        for setting in settings_of(1):
            self.wrong(("best", (), setting, [((), CLASH)], TAKEN), house)

    def test_a_row_out_of_order_or_with_a_wish_twice(self):
        for places in ((1, 0), (0, 0, 1), (0, 1, 1), (1, 0, 1)):
            self.wrong((*BEST[:3], [(places, FIRST), *ROWS[1:]], CROSSING))
            self.wrong((*BEST[:3], [*ROWS, (places, FIRST)], CROSSING))

    def test_a_row_of_a_place_that_is_no_wish(self):
        for place in (4, 5, 12, -1, -4, GREAT, -GREAT):
            places = tuple(sorted((0, 1, place)))
            self.wrong((*BEST[:3], [*ROWS, (places, FIRST)], CROSSING))
            self.wrong((*BEST[:3], [*ROWS, ((place,), FIRST)], CROSSING))

    def test_a_row_whose_wishes_do_not_clash(self):
        self.wrong((*BEST[:3], [*ROWS, ((1, 2), FIRST)], CROSSING))
        self.wrong((*BEST[:3], [*ROWS, ((1,), ("broken", 3))], CROSSING))
        self.wrong((*BEST[:3], [*ROWS, ((0,), SECOND)], CROSSING))

    def test_a_row_with_another_tree(self):
        deep = ("broken", GREAT)
        for _ in range(12):
            deep = ("part", 1, deep, deep)
        for at in range(3):
            for tree in (SECOND if at < 2 else FIRST, ("broken", 0), ("broken", -1), ("broken", GREAT), FIRST[2],
                         ("part", 1, FIRST[3], FIRST[2]), ("part", 4, FIRST[2], FIRST[3]), deep):
                rows = list(ROWS)
                rows[at] = (ROWS[at][0], tree)
                self.wrong((*BEST[:3], rows, CROSSING))

    def test_another_tree_of_the_rows(self):
        for tree in (TAKEN, ("bare", 0), ("bare", GREAT), ("bare", -1), ("part", 0, TAKEN, TAKEN), CROSSING[3],
                     ("part", 0, CROSSING[3], TAKEN), ("part", 1, CROSSING[2], CROSSING[3]),
                     ("part", 4, CROSSING[2], CROSSING[3]), ("part", -GREAT, TAKEN, TAKEN),
                     ("part", 0, TAKEN, ("part", 1, TAKEN, ("bare", 0))),
                     ("part", 0, TAKEN, ("part", 1, TAKEN, ("bare", 1)))):
            self.wrong((*BEST[:4], tree))

    def test_never_of_musts_that_do_not_clash(self):
        for tree in (FIRST, SECOND, CLASH, ("broken", 0), ("broken", 1)):
            self.wrong(("never", tree))

    def test_never_with_another_tree(self):
        for tree in (("broken", 0), ("part", 1, ("broken", 1), ("broken", 0)), ("part", 0, *CLASH[2:]),
                     ("part", 1, CLASH, CLASH), ("part", 1, ("broken", 0), ("broken", GREAT)), FIRST):
            self.wrong(("never", tree), CLASHING)
        # The wishes' rules alone clash, not the musts.
        self.wrong(("never", CLASH), (*CLASHING[:2], (0,), CLASHING[3]))

    def test_best_where_the_musts_clash(self):
        for setting in settings_of(1):
            self.wrong(("best", (1,), setting, [], ("part", 0, TAKEN, ("part", 1, TAKEN, TAKEN))), CLASHING)
            self.wrong(("best", (1,), setting, [((0, 1), CLASH)],
                        ("part", 0, TAKEN, ("part", 1, TAKEN, ("bare", 0)))), CLASHING)

    def test_made_up_papers_are_judged_after_the_words(self):
        chance = random.Random("told papers")
        many = [0, 0]
        for handed in made_up_houses("told papers", 150, most_names=3, most_wishes=5):
            house = made_house(*handed)
            told = told_clashes(house)
            if told[0] == "never":
                continue
            for _ in range(6):
                paper = self.twisted(chance, house, told)
                judged = right_by(house, paper)
                self.assertIs(told_right(house, paper), judged)
                many[judged] += 1
                if judged:
                    self.assertEqual(paper[1], least_by(house))
        self.assertGreater(min(many), 50)

    def twisted(self, chance, house, told):
        """A paper like the told one with another setting, with other sets or with rows taken out."""
        word, losses, setting, rows, tree = told
        setting = chance.choice(settings_of(house[0])) if chance.random() < 0.5 else setting
        losses = weighed_by(house, lost_by(house, setting))
        places = range(len(house[3]))
        rows = [(tuple(place for place in places if (place in some) != (chance.random() < 0.05)), clash)
                for some, clash in rows if chance.random() < 0.95]
        if chance.random() < 0.5 and all(some for some, _ in rows):
            tree = least_crossing(house, [some for some, _ in rows])[2]
        return (word, losses, setting, rows, tree)

    def test_what_is_handed_in_stays(self):
        house, told = copy.deepcopy((HOUSE, BEST))
        told_right(house, told)
        self.assertEqual((house, told), (HOUSE, BEST))


class ToldBounds(unittest.TestCase):

    def test_of_no_rows(self):
        self.assertEqual(told_bounds(HOUSE, []), [(0, 0)])
        self.assertEqual(told_bounds(HOUSE, ()), [(0, 0)])
        self.assertEqual(told_bounds(made_house(1, [], (), ()), []), [()])

    def test_of_some_rows(self):
        self.assertEqual(told_bounds(HOUSE, ROWS), [(0, 0), (1, 0), (1, 7), (1, 12)])
        self.assertEqual(told_bounds(HOUSE, ROWS[::-1]), [(0, 0), (0, 5), (0, 12), (1, 12)])
        self.assertEqual(told_bounds(HOUSE, tuple(ROWS[1:])), [(0, 0), (0, 7), (0, 12)])

    def test_of_told_rows(self):
        most = 0
        for handed in made_up_houses("bounds", 150):
            house = made_house(*handed)
            told = told_clashes(house)
            if told[0] == "never":
                continue
            rows = copy.deepcopy(told[3])
            bounds = told_bounds(house, told[3])
            self.assertIs(type(bounds), list)
            self.assertEqual(told[3], rows)
            self.assertEqual(told_bounds(house, tuple(rows)), bounds)
            self.assertEqual(len(bounds), len(rows) + 1)
            self.assertEqual(bounds, sorted(bounds))
            self.assertEqual(bounds[-1], told[1])
            for many, losses in enumerate(bounds):
                self.assertEqual(losses, self.least(house, [places for places, _ in rows[:many]]))
            most = max(most, len(rows))
        self.assertGreater(most, 3)

    def least(self, house, sets):
        places = range(len(house[3]))
        return min(weighed_by(house, some) for size in range(len(places) + 1)
                   for some in itertools.combinations(places, size) if all(set(some) & set(one) for one in sets))

    def test_what_is_told_is_the_askers_own(self):
        told = told_bounds(HOUSE, ROWS)
        told[0] = "other"
        told.append("more")
        self.assertEqual(told_bounds(HOUSE, ROWS), [(0, 0), (1, 0), (1, 7), (1, 12)])


if __name__ == "__main__":
    unittest.main()

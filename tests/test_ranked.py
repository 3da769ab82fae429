"""8.1 to 8.3, with 0.2, 0.3 and 0.6 so far as they reach houses paid rank by rank and made flat."""

import copy
import random
import unittest

from tests.helpers import (best_by, gone_by, least_by, lost_by, made_up_houses, made_up_words, open_names,
                           settings_keeping, settings_of, tree_by, weighed_by)
from wishdues.houses import made_house
from wishdues.ranked import best_rules, flat_house, ranked_best, ranked_right

GREAT = int("9" * 60)
# Yes of three names, but a must that at most one of them is yes.
RULES = [("or", (1,)), ("or", (2,)), ("or", (3,)), ("or", (-2, -1)), ("or", (-3, -1)), ("or", (-3, -2))]
HOUSE = made_house(3, RULES, (3, 4, 5), [(0, 1, 4), (1, 1, 2), (2, 2, 3), (1, 2, 1)])
FIRST = ("part", 1, ("broken", 0), ("part", 2, ("broken", 1), ("broken", 3)))
SECOND = ("part", 1, ("broken", 0), ("part", 3, ("broken", 2), ("broken", 4)))
# In the first rank 2 are paid, and the rules 0 and 6, the count of 0 and 1, are musts then.
ROWS = [[((0, 1), FIRST)], [((2,), SECOND), ((1,), FIRST)]]
BEST = ("best", (2, 4), (1, 0, 0), ROWS)
BOTH = [("or", (1,)), ("or", (-1,))]
CLASHING = made_house(1, BOTH, (0, 1), [(0, 1, 1), (1, 2, 1)])
CLASH = ("part", 1, ("broken", 0), ("broken", 1))


def dues_by(house, rank):
    """A rank's dues, straight after 8.1."""
    wishes = [wish for wish in house[3] if wish[1] == rank]
    return [(number, sum(wish[2] for wish in wishes if wish[0] == number))
            for number in sorted({wish[0] for wish in wishes})]


def right_by(house, told):
    """Whether a told tuple is right, straight after 8.1."""
    n, rules, musts, wishes = house
    if told[0] == "never":
        return tree_by(rules, musts, open_names(n), told[1])
    _, losses, setting, rows = told
    if len(rows) != max([rank for _, rank, _ in wishes], default=0) or len(losses) != len(rows):
        return False
    for rank, steps in enumerate(rows, 1):
        left = gone_by(n, rules, musts, dues_by(house, rank), steps)
        if left is None or left[0] != losses[rank - 1]:
            return False
        rules, musts = left[1], {*musts, *dict(left[2])}
    return setting in settings_keeping(n, rules, musts)


def as_tuples(told):
    return (*told[:3], tuple(tuple(steps) for steps in told[3]))


class RankedBest(unittest.TestCase):

    def look_at(self, house):
        ahead = copy.deepcopy(house)
        told = ranked_best(house)
        self.assertEqual(house, ahead)
        self.assertEqual(ranked_best(house), told)
        self.assertIs(type(told), tuple)
        self.assertTrue(right_by(house, told))
        self.assertIs(ranked_right(house, told), True)
        least = least_by(house)
        if least is None:
            self.assertEqual((told[0], len(told)), ("never", 2))
            return told
        self.assertEqual(told[:2], ("best", least))
        self.assertIn(told[2], best_by(house))
        self.assertEqual([type(thing) for thing in told[1:]], [tuple, tuple, list])
        for steps in told[3]:
            self.assertIs(type(steps), list)
            for step in steps:
                self.assertEqual([type(thing) for thing in (step, *step)], [tuple] * 3)
        self.assertIs(ranked_right(house, as_tuples(told)), True)
        self.look_at_best_rules(house, told[3])
        return told

    def look_at_best_rules(self, house, rows):
        ahead = copy.deepcopy((house, rows))
        told = best_rules(house, rows)
        self.assertEqual((house, rows), ahead)
        self.assertEqual(best_rules(house, tuple(tuple(steps) for steps in rows)), told)
        self.assertEqual([type(thing) for thing in (told, *told)], [tuple, list, tuple])
        rules, musts = told
        self.assertEqual(rules[:len(house[1])], house[1])
        self.assertEqual(musts, tuple(sorted({*musts, *house[2]})))
        self.assertEqual(settings_keeping(house[0], rules, musts), best_by(house))

    def test_a_house_of_two_ranks(self):
        self.assertEqual(self.look_at(HOUSE)[:3], ("best", (2, 4), (1, 0, 0)))

    def test_the_first_rank_goes_ahead_of_all_others(self):
        for weight in (1, 5, 10 ** 30):
            house = made_house(1, BOTH, (), [(0, 1, 1), (1, 2, weight), (1, 3, weight)])
            self.assertEqual(self.look_at(house)[:3], ("best", (0, weight, weight), (1,)))
        self.assertEqual(self.look_at(made_house(1, BOTH, (), [(1, 1, 1), (0, 2, 9)]))[:3], ("best", (0, 9), (0,)))

    def test_one_to_four_ranks(self):
        for most in range(1, 5):
            wishes = [(number, rank, 1 + number) for rank in range(1, most + 1) for number in range(3)]
            self.assertEqual(self.look_at(made_house(3, RULES, (3, 4, 5), wishes))[1:3], ((3,) * most, (0, 0, 1)))

    def test_ranks_that_no_wish_has(self):
        told = self.look_at(made_house(3, RULES, (3, 4, 5), [(0, 2, 4), (1, 4, 2)]))
        self.assertEqual(told[1:3], ((0, 0, 0, 2), (1, 0, 0)))
        self.assertEqual([len(steps) for steps in told[3]], [0, 0, 0, 1])
        self.assertEqual(self.look_at(made_house(1, BOTH, (0,), [(1, 3, 7)]))[1:3], ((0, 0, 7), (1,)))

    def test_several_wishes_of_one_rule(self):
        house = made_house(1, BOTH, (), [(0, 1, 2), (1, 1, 3), (0, 1, 2), (1, 2, 9)])
        self.assertEqual(self.look_at(house)[1:3], ((3, 9), (1,)))
        house = made_house(1, BOTH, (0,), [(1, 1, 2), (1, 1, 3), (1, 2, 9), (1, 2, 1), (0, 1, 5)])
        self.assertEqual(self.look_at(house)[1:3], ((5, 10), (1,)))

    def test_a_must_that_is_wished_too(self):
        self.assertEqual(self.look_at(made_house(1, BOTH, (0,), [(0, 1, 2), (1, 1, 3)]))[1:3], ((3,), (1,)))

    def test_of_no_wishes(self):
        for n in range(9):
            told = self.look_at(made_house(n, [], (), ()))
            self.assertEqual((told[1], len(told[2]), told[3]), ((), n, []))
        self.assertEqual(self.look_at(made_house(1, BOTH, (0,), ())), ("best", (), (1,), []))

    def test_of_no_names(self):
        rules = [("or", ()), ("not", 0)]
        self.assertEqual(self.look_at(made_house(0, rules, (1,), [(0, 2, 3), (1, 1, 4)])),
                         ("best", (0, 3), (), [[], [((0,), ("broken", 0))]]))
        self.assertEqual(self.look_at(made_house(0, rules, (0,), [(1, 1, 1)])), ("never", ("broken", 0)))
        self.assertEqual(self.look_at(made_house(0, [], (), ())), ("best", (), (), []))

    def test_musts_that_clash(self):
        self.assertEqual(self.look_at(CLASHING)[0], "never")
        self.assertEqual(self.look_at((*CLASHING[:3], []))[0], "never")

    def test_weights_of_one_and_of_thirty_figures(self):
        for one, other in ((1, 1), (1, 10 ** 30), (10 ** 30, 1), (10 ** 30, 10 ** 30)):
            house = made_house(1, BOTH, (), [(0, 1, one), (1, 1, other), (0, 2, other), (1, 2, one)])
            self.look_at(house)

    def test_made_up_houses(self):
        many = {"best": 0, "never": 0}
        most = 0
        for seed, weight in (("ranked", 4), ("ranked more", 10 ** 30), ("ranked ones", 1)):
            for handed in made_up_houses(seed, 120, most_rules=9, most_wishes=12, most_weight=weight):
                told = self.look_at(made_house(*handed))
                many[told[0]] += 1
                most = max(most, sum(len(steps) for steps in told[3]) if told[0] == "best" else 0)
        self.assertGreater(min(many.values()), 20)
        self.assertGreater(most, 5)

    def test_great_dues_end_soon(self):
        chance = random.Random("great ranks")
        for ranks in (1, 1, 2, 4):
            rows = [("or", made_up_words(chance, 5, 2)) for _ in range(24)]
            wishes = [(place, chance.randint(1, ranks), chance.randint(1, 10 ** 30)) for place in range(12)]
            told = self.look_at(made_house(5, rows, (), wishes))
            self.assertLess(sum(len(steps) for steps in told[3]), 60)

    def test_what_is_told_is_the_askers_own(self):
        told = ranked_best(HOUSE)
        kept = copy.deepcopy(told)
        told[3][0].append("more")
        told[3][1][0] = "other"
        told[3].append("more")
        self.assertEqual(ranked_best(HOUSE), kept)
        self.assertEqual(HOUSE, made_house(*HOUSE))


class RankedRight(unittest.TestCase):

    def judged(self, told, right, house=HOUSE):
        for _ in range(2):
            self.assertIs(ranked_right(house, told), right)
        self.assertIs(right_by(house, told), right)
        if told[0] == "best":
            self.assertIs(ranked_right(house, as_tuples(told)), right)

    def wrong(self, told, house=HOUSE):
        self.judged(told, False, house)

    def test_right_ones(self):
        self.judged(BEST, True)
        self.judged(("best", (2, 4), (1, 0, 0), [ROWS[0], ROWS[1][::-1]]), True)
        # 1 and 2 can be turned together too; then their count, rule 7, is to be paid.
        steps = [((1, 2), SECOND), ((2,), SECOND),
                 ((7,), ("part", 1, ("broken", 0),
                         ("part", 2, ("part", 3, ("broken", 7), ("broken", 4)), ("broken", 3))))]
        self.judged(("best", (2, 4), (1, 0, 0), [ROWS[0], steps]), True)
        self.judged(("never", CLASH), True, CLASHING)
        self.judged(("best", (), (1,), []), True, made_house(1, BOTH, (0,), ()))
        self.judged(("best", (0, 0), (0,), [[], []]), True, made_house(1, BOTH, (), [(1, 2, 1)]))

    def test_changed_losses(self):
        for losses in ((), (2,), (2, 4, 0), (0, 4), (3, 4), (2, 3), (2, 5), (4, 2), (-2, 4), (GREAT, 4), (2, -GREAT),
                       (6,), (6, 0), (0, 6)):
            self.wrong(("best", losses, *BEST[2:]))

    def test_a_changed_setting(self):
        for setting in settings_of(3):
            self.judged(("best", (2, 4), setting, ROWS), setting == (1, 0, 0))
        for bad in ((), (1, 0), (1, 0, 0, 0), (1, 0, 2), (2, 0, 0), (1, -1, 0), (GREAT, 0, 0), (1, 0, -GREAT)):
            self.wrong(("best", (2, 4), bad, ROWS))

    def test_a_setting_that_breaks_what_an_earlier_rank_left(self):
        # Nothing is wished of the second name in the last rank.
        house = made_house(2, [*BOTH, ("or", (2,))], (), [(2, 1, 1), (0, 2, 1)])
        for setting in settings_of(2):
            self.judged(("best", (0, 0), setting, [[], []]), setting == (1, 1), house)

    def test_a_step_left_out(self):
        for rows in ([[], ROWS[1]], [ROWS[0], ROWS[1][:1]], [ROWS[0], ROWS[1][1:]], [ROWS[0], []], [[], []]):
            for losses in ((2, 4), (0, 4), (2, 3), (2, 1), (2, 0), (0, 0)):
                self.wrong(("best", losses, (1, 0, 0), rows))

    def test_a_step_put_in(self):
        for at in (0, 1):
            for step in (*ROWS[0], *ROWS[1], ((0,), FIRST), ((6,), FIRST), ((3,), SECOND)):
                rows = copy.deepcopy(ROWS)
                rows[at].append(step)
                self.wrong(("best", (2, 4), (1, 0, 0), rows))
                rows[at].insert(0, rows[at].pop())
                self.wrong(("best", (2, 4), (1, 0, 0), rows))

    def test_a_step_of_another_rank(self):
        self.wrong(("best", (2, 4), (1, 0, 0), [ROWS[1], ROWS[0]]))
        self.wrong(("best", (2, 4), (1, 0, 0), [[*ROWS[0], ROWS[1][0]], ROWS[1][1:]]))
        self.wrong(("best", (5, 1), (1, 0, 0), [[*ROWS[0], ROWS[1][0]], ROWS[1][1:]]))
        self.wrong(("best", (2, 4), (1, 0, 0), [[], [*ROWS[0], *ROWS[1]]]))

    def test_a_changed_set(self):
        for rank, at in ((0, 0), (1, 0), (1, 1)):
            some, tree = ROWS[rank][at]
            for bad in ((), (0,), (0, 2), (1, 0), (0, 1, 1), (0, 1, 2), (3,), (-1,), (6,), (GREAT,), (-GREAT, 0, 1),
                        (99,)):
                rows = copy.deepcopy(ROWS)
                rows[rank][at] = (bad, tree)
                self.wrong(("best", (2, 4), (1, 0, 0), rows))

    def test_a_changed_tree(self):
        deep = ("broken", GREAT)
        for _ in range(12):
            deep = ("part", 2, deep, deep)
        for rank, at in ((0, 0), (1, 0), (1, 1)):
            some, tree = ROWS[rank][at]
            for bad in (SECOND if tree == FIRST else FIRST, tree[2], tree[3], ("broken", 3), ("broken", -1), CLASH,
                        ("broken", GREAT), ("part", 1, tree[3], tree[2]), ("part", 4, tree[2], tree[3]),
                        ("part", -1, tree[2], tree[3]), ("part", GREAT, tree[2], tree[3]), deep):
                rows = copy.deepcopy(ROWS)
                rows[rank][at] = (some, bad)
                self.wrong(("best", (2, 4), (1, 0, 0), rows))

    def test_a_tree_that_ends_in_a_rule_of_an_earlier_rank_that_is_no_must_then(self):
        # Rule 1 is gone from the dues of the first rank, and isn't left: it is no must in the second one.
        house = made_house(2, [*BOTH, ("or", (2,))], (), [(0, 1, 2), (1, 1, 1), (2, 2, 3)])
        rows = [[((0, 1), CLASH)], []]
        self.judged(("best", (1, 0), (1, 1), rows), True, house)
        self.wrong(("best", (1, 3), (1, 1), [rows[0], [((2,), CLASH)]]), house)
        self.wrong(("best", (1, 3), (1, 0), [rows[0], [((2,), CLASH)]]), house)

    def test_a_rank_too_many_or_too_few(self):
        for rows in ([*ROWS, []], [[], *ROWS], ROWS[:1], ROWS[1:], []):
            for losses in ((2, 4), (2, 4, 0), (0, 2, 4), (2,), ()):
                self.wrong(("best", losses, (1, 0, 0), rows))
        house = made_house(1, BOTH, (0,), [(0, 2, 1)])
        self.judged(("best", (0, 0), (1,), [[], []]), True, house)
        for many in (0, 1, 3):
            self.wrong(("best", (0, 0), (1,), [[]] * many), house)
            self.wrong(("best", (0,) * many, (1,), [[]] * many), house)

    def test_the_other_form(self):
        for tree in (FIRST, SECOND, CLASH, ("broken", 0), ("broken", 3)):
            self.wrong(("never", tree))
        for setting in settings_of(1):
            self.wrong(("best", (0, 0), setting, [[], []]), CLASHING)
            self.wrong(("best", (1, 0), setting, [[((0,), CLASH)], []]), CLASHING)
            self.wrong(("best", (1, 1), setting, [[((0,), CLASH)], [((1,), CLASH)]]), CLASHING)

    def test_never_with_another_tree(self):
        for tree in (("broken", 0), ("part", 1, *CLASH[:1:-1]), ("part", 2, *CLASH[2:]), ("part", 1, CLASH, CLASH),
                     ("part", 1, ("broken", 0), ("broken", GREAT)), ("part", 1, ("broken", -1), ("broken", 1))):
            self.wrong(("never", tree), CLASHING)
        # The rules of the wishes clash, but only one of them is a must.
        self.wrong(("never", CLASH), (*CLASHING[:2], (0,), CLASHING[3]))

    def test_made_up_papers_are_judged_after_the_words(self):
        chance = random.Random("ranked papers")
        many = [0, 0]
        for handed in made_up_houses("ranked papers", 200, most_names=3, most_wishes=6):
            house = made_house(*handed)
            told = ranked_best(house)
            if told[0] == "never":
                continue
            for _ in range(6):
                paper = self.twisted(chance, house, told)
                judged = right_by(house, paper)
                self.assertIs(ranked_right(house, paper), judged)
                many[judged] += 1
                if judged:
                    self.assertEqual(paper[1], least_by(house))
                    self.assertEqual(weighed_by(house, lost_by(house, paper[2])), paper[1])
        self.assertGreater(min(many), 50)

    def twisted(self, chance, house, told):
        """A paper like the told one with steps taken out or moved, or with another setting or losses."""
        word, losses, setting, rows = told
        rows = [[step for step in steps if chance.random() < 0.9] for steps in rows]
        if rows and chance.random() < 0.2:
            chance.shuffle(chance.choice(rows))
        if chance.random() < 0.3:
            setting = chance.choice(settings_of(house[0]))
            losses = chance.choice((losses, weighed_by(house, lost_by(house, setting))))
        return (word, losses, setting, rows)

    def test_what_is_handed_in_stays(self):
        house, told = copy.deepcopy((HOUSE, BEST))
        ranked_right(house, told)
        self.assertEqual((house, told), (HOUSE, BEST))


class BestRules(unittest.TestCase):

    def test_behind_two_ranks(self):
        self.assertEqual(best_rules(HOUSE, ROWS), ([*RULES, ("few", 1, (0, 1))], (0, 3, 4, 5, 6)))

    def test_of_no_ranks(self):
        self.assertEqual(best_rules(made_house(1, BOTH, (0,), ()), []), (BOTH, (0,)))
        self.assertEqual(best_rules(made_house(0, [], (), ()), ()), ([], ()))

    def test_of_ranks_without_steps(self):
        house = made_house(2, [*BOTH, ("or", (2,))], (), [(2, 1, 1), (0, 3, 1)])
        self.assertEqual(best_rules(house, [[], [], []]), ([*BOTH, ("or", (2,))], (0, 2)))

    def test_what_is_told_is_the_askers_own(self):
        house = made_house(1, BOTH, (0,), ())
        told = best_rules(house, [])
        told[0].append("more")
        self.assertEqual((house[1], best_rules(house, [])), (BOTH, (BOTH, (0,))))


class FlatHouse(unittest.TestCase):

    def flat(self, wishes):
        house = made_house(1, BOTH, (0,), wishes)
        told = flat_house(house)
        self.assertEqual(told[:3], (1, BOTH, (0,)))
        return told[3]

    def test_four_ranks(self):
        # The factors are 120, 30, 6 and 1.
        self.assertEqual(self.flat([(0, 1, 2), (1, 2, 3), (0, 3, 4), (1, 4, 5)]),
                         [(0, 1, 240), (1, 1, 90), (0, 1, 24), (1, 1, 5)])

    def test_several_wishes_in_a_rank(self):
        # 1, 1 + 2 + 1, and 1 + 2 + 1 + 4 * 5.
        self.assertEqual(self.flat([(0, 3, 2), (1, 2, 5), (1, 3, 1), (0, 1, 7), (0, 1, 1)]),
                         [(0, 1, 2), (1, 1, 20), (1, 1, 1), (0, 1, 168), (0, 1, 24)])

    def test_ranks_without_wishes(self):
        self.assertEqual(self.flat([(0, 1, 2), (1, 4, 5)]), [(0, 1, 12), (1, 1, 5)])
        self.assertEqual(self.flat([(0, 2, 3), (1, 4, 5), (0, 4, 1)]), [(0, 1, 21), (1, 1, 5), (0, 1, 1)])
        self.assertEqual(self.flat([(0, 3, 7)]), [(0, 1, 7)])
        self.assertEqual(self.flat([]), [])

    def test_weights_beyond_thirty_figures(self):
        most = 10 ** 30
        told = self.flat([(0, 1, most), (0, 2, most), (1, 3, most), (1, 4, most)])
        second = 1 + most + most * (1 + most)
        self.assertEqual(told, [(0, 1, most * (second + most * second)), (0, 1, most * second),
                                (1, 1, most * (1 + most)), (1, 1, most)])
        self.assertEqual(self.flat([(0, 1, most), (1, 1, most)]), [(0, 1, most), (1, 1, most)])

    def test_a_flat_house_made_flat_stays(self):
        for handed in made_up_houses("flat again", 30, most_weight=10 ** 30):
            flat = flat_house(made_house(*handed))
            self.assertEqual(flat_house(flat), flat)

    def factors(self, house):
        """Each rank's factor, straight after 8.3."""
        most = max([rank for _, rank, _ in house[3]], default=0)
        told = {}
        for rank in range(most, 0, -1):
            told[rank] = 1 + sum(weight * told[own] for _, own, weight in house[3] if own > rank)
        return [told[rank] for rank in range(1, most + 1)]

    def test_best_settings_and_loss(self):
        many = 0
        for weight in (3, 10 ** 30):
            for handed in made_up_houses(f"flat {weight}", 100, most_wishes=12, most_weight=weight):
                house = made_house(*handed)
                ahead = copy.deepcopy(house)
                flat = flat_house(house)
                self.assertEqual(house, ahead)
                self.assertEqual(flat_house(house), flat)
                self.assertEqual([type(thing) for thing in (flat, *flat)], [tuple, int, list, tuple, list])
                self.assertEqual(flat[:3], house[:3])
                self.assertEqual([wish[:2] for wish in flat[3]], [(number, 1) for number, _, _ in house[3]])
                self.assertEqual(best_by(flat), best_by(house))
                least = least_by(house)
                if least:
                    many += 1
                    self.assertEqual(least_by(flat), (sum(a * b for a, b in zip(least, self.factors(house))),))
                    self.assertEqual(ranked_best(flat)[1], least_by(flat))
        self.assertGreater(many, 50)

    def test_what_is_told_is_the_askers_own(self):
        house = copy.deepcopy(HOUSE)
        told = flat_house(house)
        kept = copy.deepcopy(told)
        told[1].append("more")
        told[3].append("more")
        self.assertEqual(house, HOUSE)
        self.assertEqual(flat_house(house), kept)


if __name__ == "__main__":
    unittest.main()

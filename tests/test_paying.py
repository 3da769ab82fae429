"""7.4, with 0.2, 0.3 and 0.6 so far as they reach the paying of dues."""

import copy
import random
import unittest

from tests.helpers import (gone_by, kept_by, made_up_dues, made_up_lists, open_names, owed_by, settings_keeping,
                           settings_of, tree_by)
from wishdues.paying import paid_dues, paid_right
from wishdues.rules import made_rules
from wishdues.turning import dues_after

GREAT = int("9" * 60)
# Yes of three names, each with a due, but a must that at most one of them is yes.
RULES = made_rules(3, [("or", (1,)), ("or", (2,)), ("or", (3,)), ("or", (-2, -1)), ("or", (-3, -1)), ("or", (-3, -2))])
MUSTS = (3, 4, 5)
DUES = [(0, 4), (1, 2), (2, 3)]
FIRST = ("part", 1, ("broken", 0), ("part", 3, ("broken", 2), ("broken", 4)))
# 0 and 2 are paid with 3; then 0, 1 with 1; then 1 and the count of 0 and 2 with 1.
SECOND = ("part", 1, ("broken", 0), ("part", 2, ("broken", 1), ("broken", 3)))
THIRD = ("part", 2, ("broken", 1), ("part", 1, ("part", 3, ("broken", 6), ("broken", 5)), ("broken", 3)))
STEPS = [((0, 2), FIRST), ((0, 1), SECOND), ((1, 6), THIRD)]
PAID = ("paid", 5, STEPS, (1, 0, 0))
CLASH = ("part", 1, ("broken", 0), ("broken", 1))
BOTH = [("or", (1,)), ("or", (-1,))]


def keeping_best(n, rules, musts, dues):
    """The least loss by dues of all settings that keep the musts, and the settings that lose so little."""
    losses = {setting: owed_by(rules, dues, setting) for setting in settings_keeping(n, rules, musts)}
    least = min(losses.values(), default=None)
    return least, [setting for setting in losses if losses[setting] == least]


def right_by(n, rules, musts, dues, told):
    """Whether a told tuple is right, straight after 7.4."""
    if told[0] == "never":
        return tree_by(rules, musts, open_names(n), told[1])
    _, paid, steps, setting = told
    left = gone_by(n, rules, musts, dues, steps)
    return left is not None and left[0] == paid and setting in settings_keeping(n, left[1], [*musts, *dict(left[2])])


class PaidDues(unittest.TestCase):

    def look_at(self, n, rules, musts, dues):
        ahead = copy.deepcopy((rules, musts, dues))
        told = paid_dues(n, rules, musts, dues)
        self.assertEqual((rules, musts, dues), ahead)
        self.assertEqual(paid_dues(n, rules, musts, dues), told)
        self.assertIs(type(told), tuple)
        self.assertIs(paid_right(n, rules, musts, dues, told), True)
        self.assertTrue(right_by(n, rules, musts, dues, told))
        least, best = keeping_best(n, rules, musts, dues)
        if least is None:
            self.assertEqual((told[0], len(told)), ("never", 2))
            return told
        self.assertEqual(told[:2], ("paid", least))
        self.assertEqual([type(thing) for thing in told[1:]], [int, list, tuple])
        for step in told[2]:
            self.assertEqual([type(thing) for thing in (step, *step)], [tuple] * 3)
        self.assertIs(paid_right(n, rules, musts, dues, (*told[:2], tuple(told[2]), told[3])), True)
        paid, rules_then, dues_then = dues_after(rules, dues, told[2])
        self.assertEqual(paid, least)
        self.assertIn(told[3], best)
        self.assertEqual(best, settings_keeping(n, rules_then, [*musts, *dict(dues_then)]))
        return told

    def test_a_house_of_three(self):
        told = self.look_at(3, RULES, MUSTS, DUES)
        self.assertEqual((told[1], told[3]), (5, (1, 0, 0)))

    def test_of_no_dues(self):
        for n in range(9):
            told = self.look_at(n, [], (), [])
            self.assertEqual((told[:3], len(told[3])), (("paid", 0, []), n))
        self.assertEqual(self.look_at(1, BOTH, (0,), []), ("paid", 0, [], (1,)))

    def test_dues_that_can_all_be_kept(self):
        self.assertEqual(self.look_at(1, BOTH, (), [(0, 7)]), ("paid", 0, [], (1,)))
        self.assertEqual(self.look_at(2, [("or", (1,)), ("or", (2,))], (0,), [(1, 7)]), ("paid", 0, [], (1, 1)))

    def test_a_rule_that_no_setting_keeps(self):
        told = self.look_at(0, [("or", ())], (), [(0, GREAT)])
        self.assertEqual(told, ("paid", GREAT, [((0,), ("broken", 0))], ()))
        self.assertEqual(self.look_at(1, BOTH, (0,), [(1, 3)])[1:], (3, [((1,), CLASH)], (1,)))

    def test_like_and_unlike_dues(self):
        for one, other in ((1, 1), (2, 1), (1, 2), (10 ** 30, 1), (1, 10 ** 30), (10 ** 30, 10 ** 30 - 1)):
            told = self.look_at(1, BOTH, (), [(0, one), (1, other)])
            self.assertEqual((told[1], len(told[2])), (min(one, other), 1))

    def test_a_must_with_a_due(self):
        self.assertEqual(self.look_at(1, BOTH, (0,), [(0, 5), (1, 3)])[1], 3)
        self.assertEqual(self.look_at(1, BOTH, (0,), [(0, 2), (1, 3)])[1], 3)
        self.assertEqual(self.look_at(1, BOTH, (0,), [(0, 2)]), ("paid", 0, [], (1,)))
        dues = [(number, 1 + number) for number in range(6)]
        self.assertEqual(self.look_at(3, RULES, MUSTS, dues)[1], 3)

    def test_musts_that_clash(self):
        self.assertEqual(self.look_at(1, BOTH, (0, 1), [(0, 1)])[0], "never")
        self.assertEqual(self.look_at(1, BOTH, (0, 1), [])[0], "never")
        self.assertEqual(self.look_at(0, [("or", ())], (0,), []), ("never", ("broken", 0)))

    def test_made_up_dues(self):
        chance = random.Random("paid")
        many = {"paid": 0, "never": 0}
        most = 0
        for n, rows in made_up_lists("paid", 300, most_rules=9):
            rules = made_rules(n, rows)
            musts = tuple(sorted(chance.sample(range(len(rules)), chance.randint(0, min(len(rules), 2)))))
            dues = made_up_dues(chance, len(rules), chance.choice((1, 2, 5, 100, 10 ** 30)))
            told = self.look_at(n, rules, musts, dues)
            many[told[0]] += 1
            most = max(most, len(told[2]) if told[0] == "paid" else 0)
        self.assertGreater(min(many.values()), 20)
        self.assertGreater(most, 4)

    def test_great_dues_end_soon(self):
        chance = random.Random("great")
        for _ in range(12):
            n = chance.randint(3, 5)
            rows = [("or", tuple(chance.choice((name, -name))
                                 for name in chance.sample(range(1, n + 1), chance.randint(1, 3))))
                    for _ in range(24)]
            rules = made_rules(n, rows)
            dues = [(number, chance.randint(1, 10 ** 30)) for number in range(24)]
            self.assertLess(len(self.look_at(n, rules, (), dues)[2]), 60)

    def test_eight_names_and_great_dues(self):
        rows = [("or", (name,)) for name in range(1, 9)] + [("or", (-name,)) for name in range(1, 9)]
        rows += [("few", most, tuple(range(8))) for most in (0, 2, 4)] + [("few", 3, tuple(range(8, 16)))]
        dues = [(number, 10 ** 30 - 7 ** number) for number in range(20)]
        self.assertLess(len(self.look_at(8, made_rules(8, rows), (17,), dues)[2]), 60)

    def test_what_is_told_is_the_askers_own(self):
        told = paid_dues(3, RULES, MUSTS, DUES)
        kept = copy.deepcopy(told)
        told[2].append("more")
        told[2][0] = "other"
        self.assertEqual(paid_dues(3, RULES, MUSTS, DUES), kept)
        self.assertEqual(paid_dues(3, tuple(RULES), MUSTS, tuple(DUES)), kept)


class PaidRight(unittest.TestCase):

    def judged(self, told, right, n=3, rules=RULES, musts=MUSTS, dues=DUES):
        for _ in range(2):
            self.assertIs(paid_right(n, rules, musts, dues, told), right)
        self.assertIs(right_by(n, rules, musts, dues, told), right)
        if told[0] == "paid":
            self.assertIs(paid_right(n, rules, musts, dues, (*told[:2], tuple(told[2]), told[3])), right)

    def wrong(self, told):
        self.judged(told, False)

    def test_right_ones(self):
        self.judged(PAID, True)
        self.judged(("never", CLASH), True, 1, BOTH, (0, 1), [])
        self.judged(("paid", 0, [], (1,)), True, 1, BOTH, (0,), [(0, 4)])
        self.judged(("paid", 0, [], (0,)), True, 1, BOTH, (), [])

    def test_a_changed_sum(self):
        for paid in (0, 4, 6, -5, GREAT, -GREAT):
            self.wrong(("paid", paid, *PAID[2:]))

    def test_a_sum_that_the_setting_loses_but_no_steps_pay(self):
        for setting in settings_keeping(3, RULES, MUSTS):
            self.wrong(("paid", owed_by(RULES, DUES, setting), [], setting))

    def test_a_step_left_out(self):
        for at in (0, 2):
            for paid in range(8):
                self.wrong(("paid", paid, STEPS[:at] + STEPS[at + 1:], (1, 0, 0)))
        # Without the second one the third pays 2, and 5 are paid all the same.
        for paid in range(8):
            self.judged(("paid", paid, [STEPS[0], STEPS[2]], (1, 0, 0)), paid == 5)
        for paid, steps in ((0, []), (3, STEPS[:1]), (4, STEPS[:2])):
            self.wrong(("paid", paid, steps, (1, 0, 0)))

    def test_a_step_put_in(self):
        for step in STEPS:
            for at in range(4):
                for paid in (5, 6, 7, 8):
                    self.wrong(("paid", paid, [*STEPS[:at], step, *STEPS[at:]], (1, 0, 0)))
        # Rule 6 has a due still, but no clash with the musts alone.
        for tree in (THIRD, ("broken", 6), ("broken", 3)):
            self.wrong(("paid", 7, [*STEPS, ((6,), tree)], (1, 0, 0)))

    def test_steps_exchanged(self):
        self.wrong(("paid", 5, [STEPS[0], STEPS[2], STEPS[1]], (1, 0, 0)))
        self.wrong(("paid", 5, [STEPS[2], STEPS[0], STEPS[1]], (1, 0, 0)))
        self.wrong(("paid", 5, STEPS[::-1], (1, 0, 0)))

    def test_a_changed_set(self):
        for at in range(3):
            some, tree = STEPS[at]
            for bad in ((), some[:1], some[1:], some[::-1], some * 2, (some[0], some[0], some[1]), (*some, 99), (99,),
                        (-1, *some), (*some, GREAT), (-GREAT, *some), (3, 4), (0, 1, 2)):
                self.wrong(("paid", 5, [*STEPS[:at], (bad, tree), *STEPS[at + 1:]], (1, 0, 0)))

    def test_a_changed_tree(self):
        deep = ("broken", GREAT)
        for _ in range(12):
            deep = ("part", 2, deep, deep)
        for at in range(3):
            some, tree = STEPS[at]
            for bad in (FIRST if at else SECOND, SECOND if at == 2 else THIRD, ("broken", 3), ("broken", GREAT),
                        ("broken", -1), ("part", tree[1], tree[3], tree[2]), ("part", 4, *tree[2:]), tree[2], tree[3],
                        deep):
                self.wrong(("paid", 5, [*STEPS[:at], (some, bad), *STEPS[at + 1:]], (1, 0, 0)))

    def test_a_tree_whose_end_is_neither_a_must_nor_of_the_set(self):
        # Rule 2 has a due and clashes, but isn't in the set.
        tree = ("part", 1, ("broken", 0), ("part", 3, ("broken", 2), ("broken", 4)))
        self.wrong(("paid", 2, [((0, 1), tree)], (1, 0, 0)))
        self.judged(("paid", 1, [((0,), CLASH)], (0,)), False, 1, BOTH, (), [(0, 1), (1, 9)])

    def test_a_must_in_a_set(self):
        steps = [((0, 1), CLASH)]
        self.judged(("paid", 3, steps, (1,)), True, 1, BOTH, (0,), [(0, 5), (1, 3)])
        self.judged(("paid", 3, [((1,), CLASH)], (1,)), True, 1, BOTH, (0,), [(0, 5), (1, 3)])
        self.judged(("paid", 3, steps, (0,)), False, 1, BOTH, (0,), [(0, 5), (1, 3)])

    def test_a_tree_of_a_count_that_is_not_there_yet(self):
        self.wrong(("paid", 5, [(STEPS[0][0], THIRD), *STEPS[1:]], (1, 0, 0)))

    def test_a_changed_setting(self):
        for setting in settings_of(3):
            self.judged((*PAID[:3], setting), setting == (1, 0, 0))
        for bad in ((), (1, 0), (1, 0, 0, 0), (1, 0, 2), (2, 0, 0), (1, -1, 0), (GREAT, 0, 0), (1, 0, -GREAT)):
            self.wrong((*PAID[:3], bad))
        for bad in (2, -1, GREAT):
            self.judged(("paid", 0, [], (1, bad)), False, 2, BOTH, (0,), [])
        self.judged(("paid", 0, [], (1, 1)), True, 2, BOTH, (0,), [])

    def test_a_setting_that_breaks_what_has_a_due_left(self):
        # The second name is free of the musts, but its rule has a due.
        rules = [*BOTH, ("or", (2,))]
        for setting in settings_of(2):
            self.judged(("paid", 3, [((1,), CLASH)], setting), setting == (1, 1), 2, rules, (0,), [(1, 3), (2, 1)])

    def test_the_other_form(self):
        for tree in (FIRST, SECOND, THIRD, ("broken", 3), ("broken", 0)):
            self.wrong(("never", tree))
        for setting in settings_of(1):
            self.judged(("paid", 0, [], setting), False, 1, BOTH, (0, 1), [])
            self.judged(("paid", 0, [], setting), False, 1, BOTH, (0, 1), [(0, 1)])
            self.judged(("paid", 1, [((0,), CLASH)], setting), False, 1, BOTH, (0, 1), [(0, 1)])

    def test_never_with_another_tree(self):
        for tree in (("broken", 0), ("part", 1, *CLASH[:1:-1]), ("part", 2, *CLASH[2:]), ("part", 1, CLASH, CLASH),
                     ("part", 1, ("broken", 0), ("broken", GREAT))):
            self.judged(("never", tree), False, 1, BOTH, (0, 1), [])
        self.judged(("never", CLASH), False, 1, BOTH, (0,), [(1, 5)])

    def test_made_up_papers_are_judged_after_the_words(self):
        chance = random.Random("paid papers")
        many = [0, 0]
        for n, rows in made_up_lists("paid papers", 200, most_names=3, most_rules=6):
            rules = made_rules(n, rows)
            musts = tuple(sorted(chance.sample(range(len(rules)), chance.randint(0, min(len(rules), 1)))))
            dues = made_up_dues(chance, len(rules), 3)
            told = paid_dues(n, rules, musts, dues)
            if told[0] == "never":
                continue
            for _ in range(6):
                paper = self.twisted(chance, n, told)
                judged = right_by(n, rules, musts, dues, paper)
                self.assertIs(paid_right(n, rules, musts, dues, paper), judged)
                many[judged] += 1
                if judged:
                    self.assertEqual(paper[1], keeping_best(n, rules, musts, dues)[0])
        self.assertGreater(min(many), 50)

    def twisted(self, chance, n, told):
        """A paper like the told one with steps taken out or exchanged, or with another setting or sum."""
        word, paid, steps, setting = told
        steps = [step for step in steps if chance.random() < 0.95]
        if chance.random() < 0.2:
            chance.shuffle(steps)
        return (word, paid + chance.choice((0, 0, 0, 0, -1, 1)), steps,
                chance.choice(settings_of(n)) if chance.random() < 0.4 else setting)

    def test_what_is_handed_in_stays(self):
        handed = [list(RULES), MUSTS, list(DUES), copy.deepcopy(PAID)]
        paid_right(3, *handed)
        self.assertEqual(handed, [RULES, MUSTS, DUES, PAID])

    def test_the_steps_above_are_as_told(self):
        paid, rules, dues = dues_after(RULES, DUES, STEPS)
        self.assertEqual(paid, 5)
        self.assertTrue(all(kept_by(rules, number, (1, 0, 0)) for number in [*MUSTS, *dict(dues)]))


if __name__ == "__main__":
    unittest.main()

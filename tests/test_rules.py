"""1.1 to 1.4, with 0.2 and 0.5 so far as they reach the rules."""

import copy
import unittest

from tests.helpers import (kept_by, made_up_lists, partials_of, settings_filling, settings_of, sure_by)
from wishdues.errors import BadRule, NoNames, WishError
from wishdues.rules import all_fillings, made_rules, rules_kept, rules_sure

GREAT = int("9" * 60)


class MadeRules(unittest.TestCase):

    def test_no_rows(self):
        for n in range(9):
            for rows in ([], ()):
                self.assertEqual(made_rules(n, rows), [])

    def test_a_list_of_tuples_is_told(self):
        told = made_rules(2, [["or", [2, -1]], ["few", 1, [0]], ["not", 1]])
        self.assertEqual(told, [("or", (-1, 2)), ("few", 1, (0,)), ("not", 1)])
        self.assertIs(type(told), list)
        for rule in told:
            self.assertIs(type(rule), tuple)
        self.assertIs(type(told[0][1]), tuple)
        self.assertIs(type(told[1][2]), tuple)

    def test_lists_and_tuples_are_alike(self):
        tuples = (("or", (1, 2)), ("few", 0, (0,)), ("not", 1))
        lists = [["or", [1, 2]], ["few", 0, [0]], ["not", 1]]
        mixed = (["or", (1, 2)], ("few", 0, [0]), ["not", 1])
        told = [("or", (1, 2)), ("few", 0, (0,)), ("not", 1)]
        for rows in (tuples, lists, mixed):
            self.assertEqual(made_rules(2, rows), told)

    def test_words_in_any_order_are_told_rising(self):
        told = made_rules(8, [("or", (8, -7, 6, -5, 4, -3, 2, -1)), ("or", [3, 1, -2]), ("or", (-1, -3))])
        self.assertEqual(told, [("or", (-7, -5, -3, -1, 2, 4, 6, 8)), ("or", (-2, 1, 3)), ("or", (-3, -1))])

    def test_numbers_in_any_order_are_told_rising(self):
        rows = [("or", ())] * 12 + [("few", 3, (11, 2, 10, 0))]
        self.assertEqual(made_rules(0, rows)[12], ("few", 3, (0, 2, 10, 11)))

    def test_either_ors_of_no_words_and_of_eight(self):
        self.assertEqual(made_rules(0, [("or", ())]), [("or", ())])
        self.assertEqual(made_rules(8, [("or", [])]), [("or", ())])
        self.assertEqual(made_rules(8, [("or", range_list(1, 8))]), [("or", (1, 2, 3, 4, 5, 6, 7, 8))])

    def test_counts_with_the_least_and_the_greatest_most(self):
        rows = [("few", 0, ()), ("few", 24, []), ("few", 0, (1, 0)), ("few", 24, (0, 1, 2))]
        told = [("few", 0, ()), ("few", 24, ()), ("few", 0, (0, 1)), ("few", 24, (0, 1, 2))]
        self.assertEqual(made_rules(0, rows), told)

    def test_nots(self):
        rows = [("or", (1,)), ("not", 0), ["not", 1], ("not", 0)]
        self.assertEqual(made_rules(1, rows), [("or", (1,)), ("not", 0), ("not", 1), ("not", 0)])

    def test_alike_rows_may_stand(self):
        self.assertEqual(made_rules(1, [("or", (1,))] * 3), [("or", (1,))] * 3)

    def test_twenty_four_rules_each_over_the_one_ahead(self):
        nots = [("or", (1,))] + [("not", at - 1) for at in range(1, 24)]
        counts = [("or", (1,))] + [("few", 0, (at - 1,)) for at in range(1, 24)]
        over_all = [("few", at, tuple(range(at))) for at in range(24)]
        for rows in (nots, counts, over_all):
            self.assertEqual(made_rules(1, rows), rows)

    def test_it_may_be_made_again_of_what_was_told(self):
        for n, rows in made_up_lists("again", 100):
            told = made_rules(n, rows)
            self.assertEqual(made_rules(n, told), told)
            self.assertEqual([rule[0] for rule in told], [row[0] for row in rows])

    def test_what_is_handed_in_stays_and_what_is_told_is_new(self):
        rows = [["or", [2, -1]], ["few", 1, [0]], ["not", 1]]
        ahead = copy.deepcopy(rows)
        told = made_rules(2, rows)
        self.assertEqual(rows, ahead)
        first = copy.deepcopy(told)
        self.assertIsNot(told, rows)
        told.append("more")
        told[0] = "other"
        self.assertEqual(rows, ahead)
        self.assertEqual(made_rules(2, rows), first)
        rows[0][1].append(7)
        rows.clear()
        again = made_rules(2, ahead)
        self.assertEqual(again, first)
        self.assertIsNot(made_rules(2, again), again)


def range_list(low, high):
    return list(range(low, high + 1))


class LikeAll:
    """Says of everything that it is the same."""

    def __eq__(self, other):
        return True

    __hash__ = None


class MadeRulesRefuses(unittest.TestCase):

    def refused_at(self, n, rows):
        with self.assertRaises(WishError) as caught:
            made_rules(n, rows)
        self.assertIs(type(caught.exception), BadRule)
        return caught.exception.at

    def test_names(self):
        for n in (True, False, None, "", "3", b"3", -1, 9, GREAT, -GREAT, [], (), [3], {}, {3}, {3: 3}, object(), int):
            with self.subTest(n=n):
                with self.assertRaises(NoNames):
                    made_rules(n, [])

    def test_names_from_0_to_8_are_none(self):
        for n in range(9):
            self.assertEqual(made_rules(n, [("or", range_list(1, n))]), [("or", tuple(range(1, n + 1)))])

    def test_rows_that_are_no_row(self):
        for rows in (None, True, 0, "or", "", b"", {}, {0: ("or", ())}, set(), {("or", ())}, object(), iter([]),
                     range(0)):
            with self.subTest(rows=rows):
                self.assertEqual(self.refused_at(1, rows), -1)

    def test_a_row_that_is_none(self):
        bad = ("or", "", "few", 0, 1, -1, True, None, {}, {"or": ()}, {0: "or", 1: ()}, set(), b"or", object(), GREAT,
               (), [], ("or",), ["few"], ("few", 1), ["few", 1, (), ()], ("or", (), ()), ("or", 1, ()), ("not",),
               ("not", 0, 0), ("not", (0,)), ("few", (), 1), ("few", (0,)), (None, ()), (0, ()), (("or",), ()),
               ("and", ()), ("OR", ()), ("or ", ()), ("", ()), (b"or", ()), (True, ()), ([], ()), ({}, ()),
               ("kept", 0), ("broken", 0), ((), ()), (["or", ()],), ("or, ()",), (LikeAll(), ()), (LikeAll(), 1, ()),
               ("or", (LikeAll(),)), ("few", LikeAll(), ()), ("not", LikeAll()))
        for row in bad:
            with self.subTest(row=row):
                self.assertEqual(self.refused_at(2, [("or", ()), row]), 1)
                self.assertEqual(self.refused_at(2, (row,)), 0)

    def test_words_that_are_no_row(self):
        for words in (None, 1, True, "1", "", b"", {}, {1: 1}, set(), {1}, range(1, 2), object()):
            with self.subTest(words=words):
                self.assertEqual(self.refused_at(2, [("or", words)]), 0)

    def test_words_that_are_none(self):
        for word in (0, True, False, None, "1", "a", b"1", 3, -3, GREAT, -GREAT, (), (1,), [1], {}, {1}, object()):
            for words in ((word,), [word], (1, word), [word, 2], (1, word, 2)):
                with self.subTest(words=words):
                    self.assertEqual(self.refused_at(2, [("or", words)]), 0)

    def test_words_of_no_names(self):
        for word in (0, 1, -1):
            self.assertEqual(self.refused_at(0, [("or", (word,))]), 0)

    def test_a_name_twice(self):
        for words in ((1, 1), (-1, -1), (1, -1), (-1, 1), (1, 2, 1), [2, 1, -2], (1, 2, 3, -3)):
            with self.subTest(words=words):
                self.assertEqual(self.refused_at(3, [("or", words)]), 0)

    def test_numbers_that_are_no_row(self):
        for numbers in (None, 0, True, "0", "", b"", {}, {0: 0}, set(), {0}, range(1), object()):
            with self.subTest(numbers=numbers):
                self.assertEqual(self.refused_at(1, [("or", ()), ("few", 1, numbers)]), 1)

    def test_numbers_that_are_not_ahead(self):
        rows = [("or", ()), ("or", ())]
        for number in (2, 3, 23, 24, -1, -2, GREAT, -GREAT, True, False, None, "0", b"0", (), (0,), [0], {}, object()):
            with self.subTest(number=number):
                self.assertEqual(self.refused_at(1, [*rows, ("few", 1, (number,)), ("or", ())]), 2)
                self.assertEqual(self.refused_at(1, [*rows, ("few", 1, [0, number])]), 2)
                self.assertEqual(self.refused_at(1, [*rows, ["few", 1, (number, 1)]]), 2)
                self.assertEqual(self.refused_at(1, [*rows, ("not", number), ("or", ())]), 2)

    def test_nothing_is_ahead_of_the_first(self):
        for row in (("few", 0, (0,)), ("few", 0, (-1,)), ("not", 0), ("not", -1)):
            self.assertEqual(self.refused_at(1, [row, ("or", ())]), 0)

    def test_a_number_twice(self):
        rows = [("or", ()), ("or", ())]
        for numbers in ((0, 0), (1, 1), [0, 1, 0], (1, 0, 1)):
            with self.subTest(numbers=numbers):
                self.assertEqual(self.refused_at(1, [*rows, ("few", 1, numbers)]), 2)

    def test_most(self):
        for most in (-1, 25, GREAT, -GREAT, True, False, None, "1", b"1", (), (1,), [1], {}, object()):
            with self.subTest(most=most):
                self.assertEqual(self.refused_at(1, [("few", most, ())]), 0)
                self.assertEqual(self.refused_at(1, [("or", ()), ("few", most, (0,))]), 1)

    def test_the_first_bad_row_is_told(self):
        good = ("or", (1,))
        self.assertEqual(self.refused_at(1, [good, good, ("or", (2,)), good, None]), 2)
        self.assertEqual(self.refused_at(1, [good, ("not", 2), good, ("and",), good]), 1)
        self.assertEqual(self.refused_at(1, [good] * 23 + [None] * 5), 23)

    def test_the_25th_row(self):
        good = ("or", (1,))
        self.assertEqual(len(made_rules(1, [good] * 24)), 24)
        self.assertEqual(self.refused_at(1, [good] * 25), 24)
        self.assertEqual(self.refused_at(1, tuple([good] * 40)), 24)
        self.assertEqual(self.refused_at(1, [good] * 24 + [None]), 24)
        self.assertEqual(self.refused_at(1, [good] * 7 + [None] + [good] * 30), 7)

    def test_names_are_looked_at_first_then_the_row(self):
        for rows in (None, [None], [("or", ())] * 25):
            with self.assertRaises(NoNames):
                made_rules(9, rows)
            with self.assertRaises(NoNames):
                made_rules(True, rows)
        self.assertEqual(self.refused_at(8, "few"), -1)

    def test_what_is_refused_changes_nothing(self):
        rows = [["or", [1]], ["or", [2, 1, 2]], ["few", 1, [1, 0]]]
        ahead = copy.deepcopy(rows)
        self.assertEqual(self.refused_at(2, rows), 1)
        self.assertEqual(rows, ahead)
        self.assertEqual(self.refused_at(2, rows), 1)


class RulesKept(unittest.TestCase):

    def test_of_no_rules(self):
        self.assertEqual(rules_kept([], ()), [])
        self.assertEqual(rules_kept((), (1, 0)), [])

    def test_words(self):
        rules = [("or", (1,)), ("or", (-1,)), ("or", (-2, 1)), ("or", (1, 2)), ("or", ())]
        self.assertEqual(rules_kept(rules, (0, 0)), [False, True, True, False, False])
        self.assertEqual(rules_kept(rules, (0, 1)), [False, True, False, True, False])
        self.assertEqual(rules_kept(rules, (1, 0)), [True, False, True, True, False])
        self.assertEqual(rules_kept(rules, (1, 1)), [True, False, True, True, False])

    def test_counts_and_nots(self):
        rules = [("or", (1,)), ("or", (2,)), ("or", (3,)), ("few", 0, (0, 1, 2)), ("few", 1, (0, 1, 2)),
                 ("few", 2, (0, 1, 2)), ("few", 3, (0, 1, 2)), ("few", 24, (0,)), ("few", 0, ()), ("not", 4)]
        for setting in settings_of(3):
            broken = setting.count(0)
            told = rules_kept(rules, setting)
            self.assertEqual(told[3:7], [broken <= most for most in (0, 1, 2, 3)])
            self.assertEqual(told[7:], [True, True, broken > 1])

    def test_no_names(self):
        rules = [("or", ()), ("not", 0), ("few", 0, (0,)), ("few", 1, (0, 1)), ("not", 3)]
        self.assertEqual(rules_kept(rules, ()), [False, True, False, True, False])

    def test_the_eighth_name(self):
        rules = [("or", (8,)), ("or", (-8,)), ("or", tuple(range(1, 9))), ("or", tuple(range(-8, 0)))]
        self.assertEqual(rules_kept(rules, (0,) * 7 + (1,)), [True, False, True, True])
        self.assertEqual(rules_kept(rules, (1,) * 7 + (0,)), [False, True, True, True])
        self.assertEqual(rules_kept(rules, (0,) * 8), [False, True, False, True])
        self.assertEqual(rules_kept(rules, (1,) * 8), [True, False, True, False])

    def test_over_all_settings(self):
        for n, rows in made_up_lists("kept", 120):
            rules = made_rules(n, rows)
            for setting in settings_of(n):
                told = rules_kept(rules, setting)
                self.assertEqual(told, [kept_by(rules, number, setting) for number in range(len(rules))])
                self.assertTrue(all(type(mark) is bool for mark in told))

    def test_long_chains_are_quick(self):
        rules = made_rules(1, [("or", (1,))] + [("few", 0, tuple(range(at))) for at in range(1, 24)])
        self.assertEqual(rules_kept(rules, (1,)), [True] * 24)
        self.assertEqual(rules_kept(rules, (0,)), [False] * 24)
        self.assertEqual(rules_sure(rules, (None,)), ["open"] * 24)

    def test_with_a_rule_more(self):
        rules = [("or", (1,))] * 24 + [("few", 23, tuple(range(24)))]
        self.assertEqual(rules_kept(rules, (0,)), [False] * 25)
        self.assertEqual(rules_sure(rules, (0,)), ["broken"] * 25)


class RulesSure(unittest.TestCase):

    def test_either_ors(self):
        rules = [("or", (1,)), ("or", (-1,)), ("or", (-2, 1)), ("or", (1, 2)), ("or", ())]
        self.assertEqual(rules_sure(rules, (None, None)), ["open"] * 4 + ["broken"])
        self.assertEqual(rules_sure(rules, (1, None)), ["kept", "broken", "kept", "kept", "broken"])
        self.assertEqual(rules_sure(rules, (0, None)), ["broken", "kept", "open", "open", "broken"])
        self.assertEqual(rules_sure(rules, (None, 1)), ["open", "open", "open", "kept", "broken"])
        self.assertEqual(rules_sure(rules, (None, 0)), ["open", "open", "kept", "open", "broken"])

    def test_a_count_and_the_not_of_it(self):
        rules = [("or", (1,)), ("or", (2,)), ("or", (3,)), ("few", 1, (0, 1, 2)), ("not", 3), ("not", 4)]
        for partial in partials_of(3):
            broken, unsure = partial.count(0), partial.count(None)
            if broken > 1:
                marks = ["broken", "kept", "broken"]
            elif broken + unsure <= 1:
                marks = ["kept", "broken", "kept"]
            else:
                marks = ["open", "open", "open"]
            self.assertEqual(rules_sure(rules, partial)[3:], marks)

    def test_counts_at_the_edges_of_most(self):
        rules = [("or", (1,)), ("or", (2,)), ("few", 0, (0, 1)), ("few", 2, (0, 1)), ("few", 24, (0,)), ("few", 0, ())]
        self.assertEqual(rules_sure(rules, (None, None))[2:], ["open", "kept", "kept", "kept"])
        self.assertEqual(rules_sure(rules, (0, None))[2:], ["broken", "kept", "kept", "kept"])
        self.assertEqual(rules_sure(rules, (1, None))[2:], ["open", "kept", "kept", "kept"])
        self.assertEqual(rules_sure(rules, (1, 1))[2:], ["kept", "kept", "kept", "kept"])

    def test_it_goes_by_the_marks_alone(self):
        # No setting breaks the count, nor keeps the other, but with the name open both are open.
        rules = [("or", (1,)), ("or", (-1,)), ("few", 1, (0, 1)), ("few", 0, (0, 1))]
        self.assertEqual(rules_sure(rules, (None,)), ["open"] * 4)
        self.assertEqual(rules_sure(rules, (0,)), ["broken", "kept", "kept", "broken"])

    def test_no_names_and_no_rules(self):
        self.assertEqual(rules_sure([], (None,)), [])
        self.assertEqual(rules_sure([("or", ()), ("not", 0)], ()), ["broken", "kept"])

    def test_over_all_partial_settings(self):
        for n, rows in made_up_lists("sure", 60):
            rules = made_rules(n, rows)
            for partial in partials_of(n):
                told = rules_sure(rules, partial)
                self.assertEqual(told, [sure_by(rules, number, partial) for number in range(len(rules))])

    def test_what_is_sure_is_so_in_every_filling(self):
        for n, rows in made_up_lists("fill", 60):
            rules = made_rules(n, rows)
            for partial in partials_of(n):
                for setting in settings_filling(partial):
                    for mark, kept in zip(rules_sure(rules, partial), rules_kept(rules, setting)):
                        self.assertIn(mark, ("open", "kept" if kept else "broken"))

    def test_where_no_name_is_open_no_rule_is(self):
        for n, rows in made_up_lists("full", 60):
            rules = made_rules(n, rows)
            for setting in settings_of(n):
                marks = ["kept" if kept else "broken" for kept in rules_kept(rules, setting)]
                self.assertEqual(rules_sure(rules, setting), marks)


class AllFillings(unittest.TestCase):

    def test_of_no_names(self):
        self.assertEqual(all_fillings(()), [()])

    def test_of_one_name(self):
        self.assertEqual(all_fillings((None,)), [(0,), (1,)])
        self.assertEqual(all_fillings((0,)), [(0,)])
        self.assertEqual(all_fillings((1,)), [(1,)])

    def test_of_some_open_names(self):
        self.assertEqual(all_fillings((None, 1, None)), [(0, 1, 0), (0, 1, 1), (1, 1, 0), (1, 1, 1)])

    def test_of_eight_open_names(self):
        told = all_fillings((None,) * 8)
        self.assertEqual(told, settings_of(8))
        self.assertEqual(told, sorted(set(told)))
        self.assertEqual(len(told), 256)

    def test_of_all_partial_settings(self):
        for n in range(5):
            for partial in partials_of(n):
                told = all_fillings(partial)
                self.assertEqual(told, sorted(settings_filling(partial)))
                self.assertTrue(all(type(setting) is tuple for setting in told))


class AskersOwn(unittest.TestCase):

    def test_what_is_told_and_handed_in(self):
        rules = made_rules(2, [("or", (1, 2)), ("few", 0, (0,)), ("not", 1)])
        ahead = copy.deepcopy(rules)
        for ask in (lambda: rules_kept(rules, (0, 1)), lambda: rules_sure(rules, (0, None)),
                    lambda: all_fillings((None, 0)), lambda: all_fillings(())):
            told = ask()
            self.assertIs(type(told), list)
            first = copy.deepcopy(told)
            told.append("more")
            told[0] = "other"
            self.assertEqual(ask(), first)
            self.assertEqual(rules, ahead)

    def test_rules_may_be_a_tuple(self):
        rules = made_rules(2, [("or", (1, 2)), ("few", 0, (0,)), ("not", 1)])
        self.assertEqual(rules_kept(tuple(rules), (0, 1)), rules_kept(rules, (0, 1)))
        self.assertEqual(rules_sure(tuple(rules), (0, None)), rules_sure(rules, (0, None)))


if __name__ == "__main__":
    unittest.main()

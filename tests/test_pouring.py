"""9.3 to 9.5, with 0.2, 0.3 and 0.6 so far as they reach names poured out and houses of either-ors."""

import copy
import random
import unittest

from tests.helpers import best_by, least_by, made_up_pot, made_up_words, poured_loss, settings_keeping, settings_of
from wishdues.errors import NotPlain
from wishdues.houses import made_house
from wishdues.losstrees import loss_tree
from wishdues.pots import made_pot, pot_after, pours_now
from wishdues.pouring import answer_right, house_pot, name_poured, pot_answer
from wishdues.ranked import flat_house

GREAT = int("9" * 60)
# Whoever pours here the first two, or two of the most words, again and again, doesn't end for long.
TOILS = [[((-3, -1, 2), 206829341856285679070818985784), ((-2, -1), 204780490247071360654171973199),
          ((-1,), 1266780176632575406205455360604), ((1,), 727321251997081718048212460837)],
         [((-3, -2, 1), 1699074793518993602398366672), ((-3, -1), 722746795226782494291943413233),
          ((-2, -1), 315616669407658788925999612228), ((1,), 940572114367397631348783121092)]]
# One of two names, but no both, and rather the first, or neither: 2 are lost at least.
POT = made_pot([((1, 2), 5), ((-1,), 2), ((-2,), 3)])
STEPS = [((1, 2), (-1,)), ((2,), (-2,)), ((1, 2), (-2, -1)), ((2,), (-2,))]
ANSWER = (2, STEPS[:2], (1, 0))


def unlike_pots(chance, many):
    for at in range(many):
        n = 1 + at % 5
        yield n, made_up_pot(chance, n, chance.choice((3, 6, 12, 12)), chance.choice((1, 2, 9, 10 ** 30, 10 ** 60)))


class NamePoured(unittest.TestCase):

    def look_at(self, n, pot, name):
        ahead = copy.deepcopy(pot)
        steps = name_poured(pot, name)
        self.assertEqual(pot, ahead)
        self.assertIs(type(steps), list)
        self.assertEqual(name_poured(pot, name), steps)
        self.assertEqual(name_poured(tuple(pot), name), steps)
        for step in steps:
            self.assertEqual([type(thing) for thing in (step, *step)], [tuple] * 3)
        then = pot_after(pot, steps)
        self.assertEqual(pours_now(then, name), [])
        for setting in settings_of(n):
            self.assertEqual(poured_loss(then, setting), poured_loss(pot, setting))
        self.some_keep_all_with_the_name(n, then, name)
        steps.append("more")
        self.assertEqual(name_poured(pot, name), steps[:-1])
        return steps[:-1]

    def some_keep_all_with_the_name(self, n, pot, name):
        named = [pair for pair in pot if {name, -name} & set(pair[0])]
        for setting in settings_of(n):
            like = [setting[:name - 1] + (mark,) + setting[name:] for mark in (0, 1)]
            self.assertIn(0, [poured_loss(named, one) for one in like])

    def test_some_pots(self):
        self.assertEqual(self.look_at(1, [((-1,), 3), ((1,), 5)], 1), [((1,), (-1,))])
        self.assertEqual(self.look_at(2, [((-1, 2), 3), ((1,), 5)], 1), [((1,), (-1, 2))])

    def test_where_nothing_is_to_pour(self):
        for pot in ([], [((), 3)], [((1,), 3), ((1, 2), 4)], [((-2, -1), 1), ((1, 2), 1)]):
            for name in (1, 2):
                self.assertEqual(self.look_at(2, pot, name), [])

    def test_made_up_pots(self):
        most = 0
        for n, pot in unlike_pots(random.Random("poured out"), 150):
            for name in range(1, n + 1):
                most = max(most, len(self.look_at(n, pot, name)))
        self.assertGreater(most, 5)
        self.assertLess(most, 60)

    def test_great_weights_end_soon(self):
        for pot in TOILS:
            self.assertLess(len(self.look_at(3, pot, 1)), 20)
        chance = random.Random("great pots")
        for _ in range(40):
            pot = made_pot([(made_up_words(chance, 5, 3), chance.randint(1, 10 ** 60)) for _ in range(12)])
            for name in range(1, 6):
                self.assertLess(len(self.look_at(5, pot, name)), 60)


class PotAnswer(unittest.TestCase):

    def look_at(self, n, pot):
        ahead = copy.deepcopy(pot)
        told = pot_answer(n, pot)
        self.assertEqual(pot, ahead)
        self.assertEqual(pot_answer(n, pot), told)
        self.assertEqual(pot_answer(n, tuple(pot)), told)
        self.assertEqual([type(thing) for thing in (told, *told)], [tuple, int, list, tuple])
        loss, steps, setting = told
        self.assertEqual(loss, min(poured_loss(pot, one) for one in settings_of(n)))
        self.assertIn(setting, settings_of(n))
        self.assertEqual(poured_loss(pot, setting), loss)
        self.assertEqual(dict(pot_after(pot, steps)).get(()), loss or None)
        self.assertIs(answer_right(n, pot, told), True)
        self.assertIs(answer_right(n, pot, (loss, tuple(steps), setting)), True)
        return told

    def test_some_pots(self):
        self.assertEqual(self.look_at(2, POT)[0::2], (2, (1, 0)))
        self.assertEqual(self.look_at(1, [((-1,), 3), ((1,), 5)]), (3, [((1,), (-1,))], (1,)))
        self.assertEqual(self.look_at(1, [((-1,), 6), ((1,), 5)]), (5, [((1,), (-1,))], (0,)))

    def test_empty_words_and_empty_pots(self):
        for n in range(1, 6):
            loss, steps, setting = self.look_at(n, [])
            self.assertEqual((loss, steps, len(setting)), (0, [], n))
            self.assertEqual(self.look_at(n, [((), GREAT)])[:2], (GREAT, []))
        self.assertEqual(self.look_at(2, [((), 4), ((-2,), 1), ((2,), 2)])[0::2], (5, (0, 1)))

    def test_where_nothing_need_be_lost(self):
        self.assertEqual(self.look_at(3, [((-2, 1), 4), ((-1, 3), 1), ((2,), 2)])[0::2], (0, (1, 1, 1)))

    def test_names_that_the_pot_does_not_have(self):
        self.assertEqual(self.look_at(5, [((-3,), 4), ((3,), 9)])[:2], (4, [((3,), (-3,))]))

    def test_made_up_pots(self):
        many = {False: 0, True: 0}
        for n, pot in unlike_pots(random.Random("pot answers"), 250):
            many[self.look_at(n, pot)[0] > 0] += 1
        self.assertGreater(min(many.values()), 40)

    def test_great_weights_end_soon(self):
        for pot in TOILS:
            self.assertLess(len(self.look_at(3, pot)[1]), 60)
        chance = random.Random("great answers")
        for _ in range(40):
            pot = made_pot([(made_up_words(chance, 5, 3), chance.randint(1, 10 ** 60)) for _ in range(12)])
            self.assertLess(len(self.look_at(5, pot)[1]), 120)

    def test_what_is_told_is_the_askers_own(self):
        told = pot_answer(2, POT)
        kept = copy.deepcopy(told)
        told[1].append("more")
        told[1][0] = "other"
        self.assertEqual(pot_answer(2, POT), kept)


class AnswerRight(unittest.TestCase):

    def judged(self, told, right, n=2, pot=POT):
        for _ in range(2):
            self.assertIs(answer_right(n, pot, told), right)
        self.assertIs(answer_right(n, pot, (told[0], tuple(told[1]), told[2])), right)

    def wrong(self, told, n=2, pot=POT):
        self.judged(told, False, n, pot)

    def test_right_ones(self):
        self.judged(ANSWER, True)
        self.judged((2, [((1, 2), (-2,)), ((1,), (-1,))], (1, 0)), True)
        self.judged((0, [], (1, 1)), True, 2, [((1,), 3)])
        self.judged((3, [], (0, 0)), True, 2, [((), 3), ((-1,), 3)])

    def test_more_steps_than_needed(self):
        then = pot_after(POT, STEPS[:2])
        for name in (1, 2):
            for pour in pours_now(then, name):
                loss = dict(pot_after(then, [pour])).get((), 0)
                self.judged((2, [*STEPS[:2], pour], (1, 0)), loss == 2)

    def test_a_changed_loss(self):
        for loss in (0, 1, 3, 5, 10, -2, GREAT, -GREAT):
            self.wrong((loss, *ANSWER[1:]))
        # Both settings lose so much, but the steps show less.
        self.wrong((3, STEPS[:2], (0, 1)))
        self.wrong((5, STEPS[:2], (1, 1)))
        self.wrong((0, [], (1, 0)))
        self.wrong((2, [], (1, 0)))

    def test_steps_that_show_less(self):
        pot = [((-1,), 3), ((1,), 5)]
        self.judged((3, [((1,), (-1,))], (1,)), True, 1, pot)
        for loss in (0, 3, 5):
            for setting in ((0,), (1,)):
                self.wrong((loss, [], setting), 1, pot)

    def test_a_changed_step(self):
        for at in range(2):
            one, other = STEPS[at]
            for bad in ((other, one), (one, one), (other, other), ((), ()), ((GREAT,), (-GREAT,)), ((0,), (0,)),
                        (one, (-3,)), ((3,), (-3,)), (one[::-1] + (1,), other), (one + one, other), (one, other * 2),
                        ((-GREAT, *one), other), (one, ())):
                self.wrong((2, [*STEPS[:at], bad, *STEPS[at + 1:2]], (1, 0)))
        self.wrong((2, STEPS[1::-1], (1, 0)))
        self.wrong((2, STEPS[:1], (1, 0)))
        self.wrong((2, STEPS[1:2], (1, 0)))
        self.wrong((2, STEPS[:1] * 2, (1, 0)))

    def test_words_out_of_order(self):
        self.wrong((2, [((2, 1), (-1,)), STEPS[1]], (1, 0)))

    def test_a_changed_setting(self):
        for setting in settings_of(2):
            self.judged((*ANSWER[:2], setting), setting == (1, 0))
        for bad in ((), (1,), (1, 0, 0), (1, 0, 1), (1, 2), (2, 0), (1, -1), (GREAT, 0), (1, -GREAT)):
            self.wrong((*ANSWER[:2], bad))

    def test_other_numbers_than_nought_and_one(self):
        # Nothing is said of the second name.
        for mark in (0, 1):
            self.judged((0, [], (1, mark)), True, 2, [((1,), 3)])
        for mark in (2, -1, GREAT, -GREAT):
            self.wrong((0, [], (1, mark)), 2, [((1,), 3)])

    def test_no_paper_that_is_let_by_shows_another_loss(self):
        chance = random.Random("pot papers")
        many = [0, 0]
        for n, pot in unlike_pots(chance, 150):
            loss, steps, setting = pot_answer(n, pot)
            least = min(poured_loss(pot, one) for one in settings_of(n))
            for _ in range(6):
                paper = self.twisted(chance, n, pot, steps, setting)
                judged = answer_right(n, pot, paper)
                many[judged] += 1
                self.assertTrue(not judged or (paper[0] == least and poured_loss(pot, paper[2]) == least))
        self.assertGreater(min(many), 50)

    def twisted(self, chance, n, pot, steps, setting):
        """A paper like the told one with a step taken out, or with another setting and its loss."""
        if steps and chance.random() < 0.4:
            at = chance.randrange(len(steps))
            steps = steps[:at] + steps[at + 1:]
        if chance.random() < 0.4:
            setting = chance.choice(settings_of(n))
        return poured_loss(pot, setting), steps, setting

    def test_what_is_handed_in_stays(self):
        pot, told = copy.deepcopy((POT, ANSWER))
        answer_right(2, pot, told)
        self.assertEqual((pot, told), (POT, ANSWER))


class HousePot(unittest.TestCase):

    rules = [("or", (1,)), ("or", (-1,)), ("or", (1, 2)), ("or", ()), ("few", 0, (0,)), ("not", 1), ("or", (1,))]

    def pot_of(self, musts, wishes):
        house = made_house(2, self.rules, musts, wishes)
        ahead = copy.deepcopy(house)
        told = house_pot(house)
        self.assertEqual(house, ahead)
        self.assertEqual(house_pot(house), told)
        self.assertEqual([type(thing) for thing in (told, *told)], [tuple, list, int])
        return told

    def test_by_hand(self):
        # The factors of the ranks 1, 2, 3 are 12, 6 and 1, all wishes together weigh 24 + 6 + 5.
        self.assertEqual(self.pot_of((2,), [(0, 1, 2), (1, 2, 1), (3, 3, 5)]),
                         ([((), 5), ((-1,), 6), ((1,), 24), ((1, 2), 36)], 36))
        self.assertEqual(self.pot_of((0, 1), [(2, 1, 4)]), ([((-1,), 5), ((1,), 5), ((1, 2), 4)], 5))

    def test_the_same_words(self):
        self.assertEqual(self.pot_of((), [(0, 1, 2), (6, 1, 3), (0, 1, 4)]), ([((1,), 9)], 10))
        self.assertEqual(self.pot_of((0, 6), [(0, 1, 2)]), ([((1,), 8)], 3))

    def test_of_no_wishes_and_no_musts(self):
        self.assertEqual(self.pot_of((), []), ([], 1))
        self.assertEqual(self.pot_of((0, 3), []), ([((), 1), ((1,), 1)], 1))
        self.assertEqual(house_pot(made_house(0, [], (), ())), ([], 1))

    def test_rules_of_another_kind(self):
        for musts, wishes in (((4,), []), ((5,), []), ((0, 5), [(0, 1, 1)]), ((), [(4, 1, 1)]), ((), [(5, 4, 1)]),
                              ((0, 1), [(0, 1, 1), (5, 2, 3)]), ((4,), [(5, 1, 1)])):
            with self.assertRaises(NotPlain):
                self.pot_of(musts, wishes)
        # The rules 4 and 5 are there in all of these, but neither musts nor wished.
        self.pot_of((0, 2), [(1, 1, 1), (3, 4, 1)])

    def test_made_up_houses(self):
        chance = random.Random("plain")
        many = {"least": 0, "never": 0}
        for at in range(200):
            n = 1 + at % 5
            rows = [("or", made_up_words(chance, n, 3)) for _ in range(10)]
            wishes = [(chance.randrange(10), chance.randint(1, 4), chance.choice((1, 2, 10 ** 30)))
                      for _ in range(chance.randint(0, 6))]
            house = made_house(n, rows, chance.sample(range(10), chance.randint(0, 5)), wishes)
            told = loss_tree(house)
            many[told[0]] += 1
            pot, heavy = house_pot(house)
            loss, steps, setting = pot_answer(n, pot)
            self.assertEqual(loss >= heavy, told[0] == "never")
            self.assertEqual(loss >= heavy, settings_keeping(n, house[1], house[2]) == [])
            if told[0] == "least":
                self.assertEqual(loss, sum(least_by(flat_house(house))))
                self.assertIn(setting, best_by(house))
        self.assertGreater(min(many.values()), 20)

    def test_what_is_told_is_the_askers_own(self):
        house = made_house(2, self.rules, (2,), [(0, 1, 2)])
        told = house_pot(house)
        kept = copy.deepcopy(told)
        told[0].clear()
        self.assertEqual(house_pot(house), kept)


if __name__ == "__main__":
    unittest.main()

"""0.1 to 0.6 over the whole program: what is listed is there, and all ways come to the same losses."""

import importlib
import inspect
import random
import unittest

from tests.helpers import best_by, least_by, made_up_houses, made_up_words, settings_keeping
from wishdues.book import WishBook
from wishdues.crossings import crossing_shows
from wishdues.errors import NotPlain
from wishdues.houses import best_settings, house_losses, made_house
from wishdues.losstrees import loss_tree, tree_shows
from wishdues.nearest import nearest_best
from wishdues.onebyone import told_clashes, told_right
from wishdues.pouring import answer_right, house_pot, pot_answer
from wishdues.ranked import best_rules, flat_house, ranked_best, ranked_right
from wishdues.says import best_many, name_says
from wishdues.texts import house_text, read_house
from wishdues.trees import tree_right

FUNCTIONS = {
    "rules": {"made_rules": 2, "rules_kept": 2, "rules_sure": 2, "all_fillings": 1},
    "trees": {"tree_right": 4, "kept_together": 3, "kept_settings": 3, "tree_ends": 1},
    "clashes": {"least_clash": 4, "clash_right": 5, "greatest_peace": 4, "peace_right": 5},
    "houses": {"made_house": 4, "house_losses": 2, "wishes_losses": 2, "lost_wishes": 2, "keeps_musts": 2,
               "best_settings": 1},
    "losstrees": {"tree_shows": 2, "loss_tree": 1},
    "crossings": {"least_crossing": 2, "crossing_shows": 3},
    "onebyone": {"told_clashes": 1, "told_right": 2, "told_bounds": 2},
    "turning": {"dues_loss": 3, "turned_dues": 3, "dues_after": 3},
    "paying": {"paid_dues": 4, "paid_right": 5},
    "ranked": {"ranked_best": 1, "ranked_right": 2, "best_rules": 2, "flat_house": 1},
    "pots": {"made_pot": 1, "pot_loss": 2, "poured_pot": 3, "pours_now": 2, "pot_after": 2},
    "pouring": {"name_poured": 2, "pot_answer": 2, "answer_right": 3, "house_pot": 1},
    "says": {"best_many": 1, "name_says": 1, "wish_says": 1},
    "nearest": {"with_elder": 2, "nearest_best": 2},
    "texts": {"house_text": 2, "read_house": 1},
}
METHODS = {
    ("book", "WishBook"): {"__init__": 2, "lay_rule": 2, "make_must": 2, "free_must": 2, "come_wish": 4, "drop_wish": 2,
                           "take_back": 1, "house_now": 1, "wish_ids": 1, "answer_now": 1, "rows_standing": 1},
    ("desk", "WishDesk"): {"__init__": 1, "say": 2},
}


class Interface(unittest.TestCase):

    def takes(self, function, many):
        kinds = [parameter.kind for parameter in inspect.signature(function).parameters.values()]
        self.assertEqual(kinds, [inspect.Parameter.POSITIONAL_OR_KEYWORD] * many, function)

    def test_functions(self):
        for module, functions in FUNCTIONS.items():
            for name, many in functions.items():
                self.takes(getattr(importlib.import_module(f"wishdues.{module}"), name), many)

    def test_methods_stand_in_their_own_class(self):
        for (module, name), methods in METHODS.items():
            own = vars(getattr(importlib.import_module(f"wishdues.{module}"), name))
            for method, many in methods.items():
                self.takes(own[method], many)


class AllWays(unittest.TestCase):

    def look_at(self, house):
        """Whether there is a best setting, all ways and papers telling the same of it."""
        n, rules, musts, wishes = house
        least = least_by(house)
        whole, ranked, flat = loss_tree(house), ranked_best(house), flat_house(house)
        ways = [told_clashes(house), ranked] if len(wishes) <= 8 else [ranked]
        self.assertIs(ranked_right(house, ranked), True)
        if least is None:
            self.assertEqual(tree_shows(house, whole[1]), ("never",))
            for told in ways:
                self.assertEqual(told[0], "never")
                self.assertTrue(tree_right(n, rules, musts, told[1]))
            self.assertEqual((loss_tree(flat)[0], ranked_best(flat)[0]), ("never", "never"))
            self.look_at_pot(house, None)
            return False
        self.assertEqual((whole[:2], tree_shows(house, whole[3])), (("least", least), ("least", least)))
        for told in ways:
            self.assertEqual(told[:2], ("best", least))
            self.assertEqual(house_losses(house, told[2]), least)
        if len(wishes) <= 8:
            self.assertIs(told_right(house, ways[0]), True)
            sets = [places for places, _ in ways[0][3]]
            self.assertEqual(crossing_shows(house, sets, ways[0][4]), ("least", least))
        self.assertEqual(settings_keeping(n, *best_rules(house, ranked[3])), best_by(house))
        self.assertEqual((best_settings(flat), best_settings(house)), (best_by(house),) * 2)
        self.assertEqual(loss_tree(flat)[1], ranked_best(flat)[1])
        self.assertEqual(best_many(house), len(best_by(house)))
        self.assertEqual(nearest_best(house, whole[2]), (0, whole[2]))
        for at, told in enumerate(name_says(house)):
            self.assertEqual(told[0] == "both", len({setting[at] for setting in best_by(house)}) == 2)
        self.look_at_pot(house, sum(loss_tree(flat)[1]))
        return True

    def look_at_pot(self, house, loss):
        """The pot, where all is either-ors, comes to the flat house's loss, or is heavy where the musts clash."""
        n, rules, musts, wishes = house
        plain = all(rules[number][0] == "or" for number in [*musts, *[wish[0] for wish in wishes]])
        if not plain:
            with self.assertRaises(NotPlain):
                house_pot(house)
        elif n:
            pot, heavy = house_pot(house)
            told = pot_answer(n, pot)
            self.assertIs(answer_right(n, pot, told), True)
            self.assertEqual(told[0] if told[0] < heavy else None, loss)

    def test_made_up_houses(self):
        many = [0, 0]
        for weight in (1, 3, 10 ** 30):
            for handed in made_up_houses(f"ways {weight}", 80, most_names=5, most_rules=8, most_weight=weight):
                many[self.look_at(made_house(*handed))] += 1
        self.assertGreater(min(many), 20)

    def test_made_up_houses_of_either_ors(self):
        chance = random.Random("plain ways")
        many = [0, 0]
        for at in range(150):
            n = at % 6
            rows = [("or", made_up_words(chance, n, 3)) for _ in range(12)]
            musts = chance.sample(range(12), chance.randint(0, 4))
            wishes = [(chance.randrange(12), chance.randint(1, 4), chance.choice((1, 2, 3, 10 ** 30)))
                      for _ in range(chance.randint(0, 8))]
            many[self.look_at(made_house(n, rows, musts, wishes))] += 1
        self.assertGreater(min(many), 20)

    def test_a_book_tells_as_if_anew(self):
        for handed in made_up_houses("ways of books", 80, most_names=5):
            house = made_house(*handed)
            book = WishBook(house[0])
            for rule in house[1]:
                book.lay_rule(rule)
            for wish in house[3]:
                book.come_wish(*wish)
            book.answer_now()
            for number in house[2]:
                book.make_must(number)
            told = book.answer_now()
            self.assertEqual(book.house_now(), house)
            self.assertIs(told_right(house, told), True)
            self.assertEqual(told[1] if told[0] == "best" else None, least_by(house))

    def test_what_is_read_is_told_alike(self):
        for handed in made_up_houses("ways of texts", 40, most_names=5):
            house = made_house(*handed)
            names, read = read_house(house_text(list("abcde")[:house[0]], house))
            self.assertEqual(loss_tree(read), loss_tree(house))


if __name__ == "__main__":
    unittest.main()

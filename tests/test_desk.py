"""12.2, with 0.2 and 0.4 so far as they reach the desk."""

import random
import re
import unittest

from tests.helpers import best_by, least_by, settings_of
from wishdues.book import WishBook
from wishdues.desk import WishDesk
from wishdues.errors import BadMust, BadRule, BadWish, NoBook, NoName, NoRow, NothingDone, NoWish, WishError
from wishdues.nearest import nearest_best

SIXTY = "9" * 60
# Rows of a good form, of names that may be none of a book's.
FORMED = ("or", "or ann", "or -ann bob ann", "few 0", "few 1 0 0 7", f"few {SIXTY} {SIXTY}", "not 0", f"not {SIXTY}",
          "must 0", f"must {SIXTY}", "free 0", "drop 0", f"drop {SIXTY}", "undo", "wish 0 1 1",
          f"wish {SIXTY} {SIXTY} {SIXTY}", "best", "rows", "says", "near", "near ann", "near -ann -ann", "or abcdefgh",
          "near or -few")
UNFORMED = ("", " ", "  ", "\n", "nothing", "OK", "Best", "best ", " best", "best\n", "\nbest", "best 0", "best best",
            "best  ", "rows 1", "rows rows", "says ann", "undo 1", "undo 0", "undo undo", "or  ann", "or ann ",
            " or ann", "or\nann", "or ann\n", "or Ann", "or ann1", "or 1", "or -", "or --ann", "or -ann-", "or ann -",
            "or abcdefghi", "or -abcdefghi", "or +ann", "or a_b", "or ann,bob", "or a:", "few", "few ann", "few -1",
            "few 01", "few 1 01", "few 00", "few 1 -1", "few +1", "few 1 ann", "few 1  0", "few 1 0 ",
            f"few {SIXTY}9", f"few 1 {SIXTY}9", "few 1.0", "few 1_0", "not", "not ann", "not -1", "not 01", "not 0 0",
            "not +0", f"not {SIXTY}0", "must", "must ann", "must -1", "must 00", "must 0 1", f"must 1{SIXTY}", "free",
            "free a", "free -1", "free 0 1", "free 01", f"free 1{SIXTY}", "drop", "drop a", "drop -1", "drop 0 1",
            "drop 01", f"drop 1{SIXTY}", "wish", "wish 0", "wish 0 1", "wish 0 1 1 1", "wish a 1 1", "wish 0 a 1",
            "wish 0 1 a", "wish 00 1 1", "wish 0 01 1", "wish 0 1 01", "wish 0 1 -1", f"wish 0 1 1{SIXTY}", "near 1",
            "near Ann", "near -", "near --ann", "near ann ", "near abcdefghi", "musts 0", "name ann", "NAMES ann",
            "names  ann", "names ann ", " names ann", "names\nann", "names ann\n", "names ann ann",
            "names ann bob ann", "names a b c d e f g h i", "names Ann", "names ann1", "names -ann", "names 1",
            "names abcdefghi", "names ann-", "names a.b", "ok", "never", ":", "-", "0", "~", "or ann\nbest",
            "best\nbest", "orann", "few1", "not0", "a" * 3000, "9" * 3000, "or " + "9" * 2990, "few " + "9" * 2990)


class Desk(unittest.TestCase):

    def setUp(self):
        self.desk = WishDesk()

    def told(self, *pairs):
        for row, answer in pairs:
            heard = self.desk.say(row)
            self.assertIs(type(heard), str)
            self.assertEqual(heard, answer, row)

    def refused(self, error, *rows):
        for row in rows:
            with self.assertRaises(WishError) as caught:
                self.desk.say(row)
            self.assertIs(type(caught.exception), error, row)

    def refused_at(self, error, at, row):
        with self.assertRaises(error) as caught:
            self.desk.say(row)
        self.assertEqual(caught.exception.at, at, row)

    def test_a_whole_talk(self):
        self.told(("names ann bob cy", "ok"), ("or bob ann", "0"), ("or -bob -ann", "1"), ("or cy", "2"),
                  ("not 2", "3"), ("few 1 0 3", "4"), ("must 0", "ok"), ("must 1", "ok"), ("best", ": bob"),
                  ("rows", "0"), ("says", "both both both"), ("wish 2 2 3", "0"), ("best", "0 0 : bob cy"),
                  ("says", "both both yes"), ("wish 3 1 7", "1"), ("best", "0 3 : bob"), ("rows", "1"),
                  ("says", "both both no"), ("near ann -bob cy", "1 : ann"), ("near ann bob cy", "2 : bob"),
                  ("drop 1", "ok"), ("rows", "0"), ("best", "0 0 : bob cy"), ("undo", "ok"), ("rows", "1"),
                  ("best", "0 3 : bob"), ("free 1", "ok"), ("best", "0 3 : bob"),
                  ("near ann bob -cy", "0 : ann bob"))

    def test_rules(self):
        self.told(("names ann bob", "ok"), ("or", "0"), ("or -bob ann", "1"), ("or ann -bob", "2"), ("few 0", "3"),
                  ("few 24 3 0 1", "4"), ("not 4", "5"), ("or bob", "6"))

    def test_of_no_names(self):
        self.told(("names", "ok"), ("best", ":"), ("says", "-"), ("near", "0 :"), ("rows", "0"), ("or", "0"),
                  ("not 0", "1"), ("wish 0 2 5", "0"), ("best", "0 5 :"), ("rows", "1"), ("says", "-"), ("near", "0 :"),
                  ("must 0", "ok"), ("best", "never"), ("says", "never"), ("near", "never"), ("rows", "1"),
                  ("undo", "ok"), ("best", "0 5 :"))

    def test_best_without_wishes(self):
        self.told(("names ann bob", "ok"), ("best", ":"), ("or ann", "0"), ("must 0", "ok"), ("best", ": ann"),
                  ("or ann bob", "1"), ("not 1", "2"), ("best", ": ann"), ("must 2", "ok"), ("best", "never"))

    def test_the_least_best_setting(self):
        self.told(("names a b c", "ok"), ("or a b c", "0"), ("must 0", "ok"), ("best", ": c"), ("or a", "1"),
                  ("wish 1 1 1", "0"), ("best", "0 : a"), ("or c", "2"), ("wish 2 3 1", "1"), ("best", "0 0 0 : a c"))

    def test_never(self):
        self.told(("names ann", "ok"), ("or ann", "0"), ("or -ann", "1"), ("must 0", "ok"), ("must 1", "ok"),
                  ("best", "never"), ("says", "never"), ("near ann", "never"), ("near -ann", "never"), ("rows", "0"),
                  ("free 0", "ok"), ("best", ":"), ("says", "no"), ("near ann", "1 :"))

    def test_rows_ahead_of_the_first_best(self):
        self.told(("names ann", "ok"), ("or ann", "0"), ("or -ann", "1"), ("wish 0 1 2", "0"), ("wish 1 1 1", "1"),
                  ("rows", "0"), ("says", "yes"), ("near -ann", "1 : ann"), ("rows", "0"), ("best", "1 : ann"),
                  ("rows", "1"), ("best", "1 : ann"), ("rows", "1"), ("drop 0", "ok"), ("rows", "0"), ("undo", "ok"),
                  ("rows", "1"), ("must 0", "ok"), ("rows", "1"))

    def test_says_of_a_book_of_24_rules(self):
        self.told(("names a b c d e f g h", "ok"))
        for number in range(23):
            self.told(("or " + "abcdefgh"[number % 8] + (" -a" if number % 8 else ""), str(number)))
        self.told(("not 0", "23"), ("wish 1 1 1", "0"), ("must 23", "ok"), ("wish 0 2 1", "1"),
                  ("says", "no both both both both both both both"), ("best", "0 1 :"),
                  ("near a b c d e f g h", "1 : b c d e f g h"), ("free 23", "ok"), ("must 0", "ok"),
                  ("says", "yes yes both both both both both both"))
        for number in range(1, 8):
            self.told((f"must {number}", "ok"))
        self.told(("says", "yes yes yes yes yes yes yes yes"))
        self.refused_at(BadRule, 24, "or a")

    def test_great_numbers(self):
        self.told(("names ann", "ok"), ("or -ann", "0"), ("or ann", "1"), ("must 1", "ok"),
                  (f"wish 0 1 {10 ** 30}", "0"), (f"wish 0 1 {10 ** 30}", "1"), ("best", f"{2 * 10 ** 30} : ann"))
        for row in (f"few {SIXTY}", f"few 1 {SIXTY}", f"not {SIXTY}"):
            self.refused_at(BadRule, 2, row)
        for row in (f"must {SIXTY}", f"free {SIXTY}"):
            self.refused_at(BadMust, 0, row)
        for row in (f"wish {SIXTY} 1 1", f"wish 0 {SIXTY} 1", f"wish 0 1 {SIXTY}", f"wish 0 1 {10 ** 30 + 1}"):
            self.refused_at(BadWish, 0, row)
        self.refused(NoWish, f"drop {SIXTY}")
        for row in ("few {}", "few 1 {}", "not {}", "must {}", "free {}", "wish {} 1 1", "wish 0 {} 1", "wish 0 1 {}",
                    "drop {}"):
            self.refused(NoRow, row.format(SIXTY + "9"), row.format("1" + "0" * 60), row.format("0" * 60))

    def test_no_row(self):
        self.refused(NoRow, *UNFORMED)
        self.told(("names ann bob", "ok"), ("or ann", "0"), ("wish 0 1 1", "0"))
        self.refused(NoRow, *UNFORMED)
        self.told(("best", "0 : ann"), ("rows", "0"), ("or bob", "1"), ("wish 1 1 1", "1"), ("undo", "ok"),
                  ("undo", "ok"))
        self.refused(NothingDone, "undo")

    def test_no_book(self):
        self.refused(NoBook, *FORMED)
        self.refused(NoRow, "names ann ann")
        self.refused(NoBook, *FORMED)
        self.told(("names", "ok"), ("rows", "0"))

    def test_no_name(self):
        self.told(("names ann bob", "ok"), ("or ann", "0"))
        self.refused(NoName, "or cy", "or -cy", "or ann cy", "or cy ann", "or an", "or annn", "or or", "or ann ann cy",
                     "or names")
        self.refused(NoName, "near", "near ann", "near bob", "near bob ann", "near ann bob bob", "near ann bob cy",
                     "near ann ann", "near ann cy", "near -bob -ann", "near cy", "near an bob")
        self.told(("or bob", "1"), ("near -ann bob", "0 : bob"))
        self.told(("names", "ok"))
        self.refused(NoName, "or ann", "near ann")
        self.told(("near", "0 :"), ("or", "0"))

    def test_no_name_goes_ahead_of_what_the_book_refuses(self):
        self.told(("names ann", "ok"))
        self.refused_at(BadRule, 0, "or ann -ann")
        self.refused(NoName, "or ann -ann bob")
        for number in range(24):
            self.told(("or ann", str(number)))
        self.refused_at(BadRule, 24, "or ann")
        self.refused(NoName, "or bob")
        self.refused_at(BadRule, 24, "not 0")

    def test_what_the_book_refuses(self):
        self.told(("names ann bob", "ok"), ("or ann", "0"), ("or -ann", "1"))
        for row in ("or ann ann", "or ann -ann", "few 25 0", "few 0 2", "few 0 0 0", "few 1 1 0 1", "not 2", "not 24"):
            self.refused_at(BadRule, 2, row)
        for row in ("must 2", "free 0", "free 2", "must 24"):
            self.refused_at(BadMust, 0, row)
        for row in ("wish 2 1 1", "wish 0 0 1", "wish 0 5 1", "wish 0 1 0", f"wish 0 1 {10 ** 30 + 1}"):
            self.refused_at(BadWish, 0, row)
        self.refused(NoWish, "drop 0", "drop 1")
        self.refused(NothingDone, "undo")
        self.told(("must 0", "ok"))
        self.refused_at(BadMust, 0, "must 0")
        self.told(("wish 0 1 1", "0"), ("or bob", "2"))
        self.refused(NoWish, "drop 1")
        self.told(("undo", "ok"), ("undo", "ok"))
        self.refused(NothingDone, "undo")

    def test_eight_wishes(self):
        self.told(("names ann", "ok"), ("or ann", "0"))
        for own in range(8):
            self.told(("wish 0 1 1", str(own)))
        self.refused_at(BadWish, 0, "wish 0 1 1")
        self.told(("drop 3", "ok"), ("wish 0 1 1", "8"), ("undo", "ok"), ("wish 0 1 1", "9"))

    def test_a_new_book(self):
        self.told(("names ann", "ok"), ("or ann", "0"), ("or -ann", "1"), ("must 1", "ok"), ("wish 0 1 1", "0"),
                  ("wish 1 1 1", "1"), ("best", "1 :"), ("rows", "1"), ("names ann", "ok"), ("rows", "0"),
                  ("best", ":"), ("says", "both"))
        self.refused(NothingDone, "undo")
        self.refused(NoWish, "drop 0")
        self.refused(BadMust, "free 1", "must 0")
        self.told(("or ann", "0"), ("wish 0 1 1", "0"), ("best", "0 : ann"), ("names bob cy", "ok"))
        self.refused(NoName, "or ann")
        self.told(("or cy", "0"), ("best", ":"))

    def test_a_refused_names_row_changes_nothing(self):
        self.told(("names ann", "ok"), ("or ann", "0"), ("wish 0 1 1", "0"))
        self.refused(NoRow, "names bob bob", "names a b c d e f g h i", "names Bob", "names bob ", "names abcdefghi")
        self.told(("best", "0 : ann"), ("or -ann", "1"), ("wish 1 1 1", "1"))

    def test_names_like_the_words_of_rows(self):
        self.told(("names or few not must names best undo near", "ok"), ("or or -few not", "0"), ("must 0", "ok"),
                  ("best", ":"), ("near or -few not must -names best -undo -near", "0 : or not must best"),
                  ("says", "both both both both both both both both"))

    def test_two_desks_are_apart(self):
        other = WishDesk()
        self.told(("names ann", "ok"), ("or ann", "0"), ("wish 0 1 1", "0"))
        with self.assertRaises(NoBook):
            other.say("best")
        self.assertEqual(other.say("names bob"), "ok")
        self.assertEqual(other.say("or -bob"), "0")
        self.assertEqual(other.say("wish 0 1 1"), "0")
        self.assertEqual(other.say("must 0"), "ok")
        self.told(("best", "0 : ann"), ("undo", "ok"))
        self.refused(NothingDone, "undo")
        self.assertEqual(other.say("best"), "0 :")

    def test_made_up_talks(self):
        chance = random.Random("talks")
        many = {}
        for _ in range(60):
            names = chance.sample(["ann", "bob", "cy", "dee"], chance.randint(0, 4))
            self.told((" ".join(["names", *names]), "ok"))
            book = WishBook(len(names))
            for _ in range(60):
                row = self.made_up(chance, names)
                try:
                    answer = self.answered(book, names, row)
                except WishError as error:
                    self.refused(type(error), row)
                    answer = type(error).__name__
                else:
                    self.told((row, answer))
                answer = answer if answer[0].isalpha() else "other"
                many[answer] = many.get(answer, 0) + 1
        self.assertTrue({"ok", "other", "never", "BadRule", "BadMust", "BadWish", "NoWish", "NothingDone", "both"}
                        <= set(re.findall(r"\w+", " ".join(many))), many)

    def made_up(self, chance, names):
        """A row of a good form, of the names there are."""
        word = chance.choice(("or", "or", "few", "not", "must", "free", "wish", "wish", "drop", "undo", "best", "rows",
                              "says", "near"))
        if word == "or":
            names = chance.choices(names, k=chance.randint(0, 2)) if names else []
        if word in ("or", "near"):
            return " ".join([word, *[chance.choice(("", "-")) + name for name in names]])
        numbers = {"few": chance.randint(1, 4), "wish": 3, "not": 1, "must": 1, "free": 1, "drop": 1}.get(word, 0)
        return " ".join([word, *[str(chance.randint(0, 4)) for _ in range(numbers)]])

    def answered(self, book, names, row):
        """What a desk with this book answers, straight after 12.2."""
        word, *rest = row.split(" ")
        if word == "or":
            return str(book.lay_rule(("or", [(names.index(name.strip("-")) + 1) * (-1 if name[0] == "-" else 1)
                                             for name in rest])))
        if word == "near":
            return self.near(book, names, tuple(int(name[0] != "-") for name in rest))
        numbers = [int(number) for number in rest]
        if word in ("few", "not"):
            return str(book.lay_rule((word, numbers[0], numbers[1:]) if word == "few" else (word, *numbers)))
        if word in ("must", "free", "drop", "undo"):
            deeds = {"must": book.make_must, "free": book.free_must, "drop": book.drop_wish, "undo": book.take_back}
            return "ok" if deeds[word](*numbers) is None else "no"
        if word == "wish":
            return str(book.come_wish(*numbers))
        if word == "rows":
            return str(len(book.rows_standing()))
        house = book.house_now()
        if word == "best":
            told = book.answer_now()
            return "never" if told[0] == "never" else self.yes_of(names, least_by(house), best_by(house)[0])
        best = best_by(house)
        said = [{setting[at] for setting in best} for at in range(len(names))]
        told = ["both" if len(one) == 2 else "yes" if one == {1} else "no" for one in said]
        return " ".join(told or ["-"]) if best else "never"

    def near(self, book, names, elder):
        house = book.house_now()
        if not best_by(house):
            return "never"
        self.assertIn(elder, settings_of(len(names)))
        many, setting = nearest_best(house, elder)
        return self.yes_of(names, [many], setting)

    def yes_of(self, names, numbers, setting):
        return " ".join([*map(str, numbers), ":", *[name for name, mark in zip(names, setting) if mark]])


if __name__ == "__main__":
    unittest.main()

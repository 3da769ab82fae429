"""12.1, with 0.2 and 0.4 so far as they reach texts."""

import copy
import itertools
import random
import re
import unittest

from tests.helpers import made_up_houses
from wishdues.errors import NoText
from wishdues.houses import made_house
from wishdues.ranked import flat_house
from wishdues.texts import house_text, read_house

GREAT = int("9" * 60)
NAMES = ["ann", "bob", "cy"]
HOUSE = made_house(3, [("or", (1, -2)), ("or", ()), ("or", (-3, -1, 2)), ("few", 0, ()), ("few", 24, (0, 2)),
                       ("not", 4)], (5, 0), [(4, 1, 10 ** 30), (0, 4, 1), (4, 2, 20)])
TEXT = """names ann bob cy
or -bob ann
or
or -cy -ann bob
few 0
few 24 0 2
not 4
musts 0 5
wish 4 1 1000000000000000000000000000000
wish 0 4 1
wish 4 2 20"""
ROWS = TEXT.split("\n")
NUMBER = "(0|[1-9][0-9]*)"


def names_by(row):
    """The names of a names row, or None, straight after 12.1."""
    if not re.fullmatch("names( [a-z]{1,8}){0,8}", row):
        return None
    names = row.split(" ")[1:]
    return names if len(set(names)) == len(names) else None


def rule_by(names, number, row):
    """The rule of a row, or None, straight after 12.1."""
    parts = row.split(" ")
    if number >= 24:
        return None
    if parts[0] == "or" and all(re.fullmatch("-?[a-z]+", part) and part.strip("-") in names for part in parts[1:]):
        words = [(names.index(part.strip("-")) + 1) * (-1 if part[0] == "-" else 1) for part in parts[1:]]
        unlike = len({abs(word) for word in words}) == len(words)
        return ("or", tuple(words)) if unlike and words == sorted(words) else None
    if re.fullmatch(f"few {NUMBER}( {NUMBER})*", row):
        most, *numbers = map(int, parts[1:])
        right = most <= 24 and all(other < number for other in numbers) and numbers == sorted(set(numbers))
        return ("few", most, tuple(numbers)) if right else None
    if re.fullmatch(f"not {NUMBER}", row) and int(parts[1]) < number:
        return ("not", int(parts[1]))
    return None


def wish_by(rules, place, row):
    """The wish of a row, or None, straight after 12.1."""
    if place >= 12 or not re.fullmatch(f"wish {NUMBER} {NUMBER} {NUMBER}", row):
        return None
    number, rank, weight = map(int, row.split(" ")[1:])
    return (number, rank, weight) if number < len(rules) and 1 <= rank <= 4 and 1 <= weight <= 10 ** 30 else None


def read_by(text):
    """(names, house), or the number of the first row that is none in its place."""
    rows = text.split("\n")
    names = names_by(rows[0])
    if names is None:
        return 0
    rules, musts, wishes = [], None, []
    for at, row in enumerate(rows[1:], 1):
        if musts is not None:
            wishes.append(wish_by(rules, len(wishes), row))
            if wishes[-1] is None:
                return at
        elif re.fullmatch(f"musts( {NUMBER})*", row):
            musts = tuple(map(int, row.split(" ")[1:]))
            if list(musts) != sorted(set(musts)) or any(number >= len(rules) for number in musts):
                return at
        else:
            rules.append(rule_by(names, len(rules), row))
            if rules[-1] is None:
                return at
    return len(rows) if musts is None else (names, (len(names), rules, musts, wishes))


class HouseText(unittest.TestCase):

    def test_all_kinds(self):
        for names in (NAMES, tuple(NAMES)):
            self.assertEqual(house_text(names, HOUSE), TEXT)

    def test_the_least_houses(self):
        self.assertEqual(house_text([], made_house(0, [], (), ())), "names\nmusts")
        self.assertEqual(house_text((), made_house(0, [("or", ())], (), ())), "names\nor\nmusts")
        self.assertEqual(house_text(["a"], made_house(1, [], (), ())), "names a\nmusts")
        self.assertEqual(house_text(["zzzzzzzz"], made_house(1, [("or", (-1,))], (0,), ())),
                         "names zzzzzzzz\nor -zzzzzzzz\nmusts 0")
        self.assertEqual(house_text([], made_house(0, [("or", ())], (), [(0, 1, 1)])), "names\nor\nmusts\nwish 0 1 1")

    def test_names_like_the_words_of_rows(self):
        names = ["or", "few", "not", "musts", "wish", "names"]
        house = made_house(6, [("or", (1, 2, 3, -4, -5, -6))], (), ())
        text = "names or few not musts wish names\nor -names -wish -musts or few not\nmusts"
        self.assertEqual(house_text(names, house), text)
        self.assertEqual(read_house(text), (names, house))

    def test_a_flat_houses_greater_weights(self):
        most = 10 ** 30
        flat = flat_house(made_house(1, [("or", (1,))], (), [(0, 1, most), (0, 2, most), (0, 3, most), (0, 4, most)]))
        text = house_text(["ann"], flat)
        self.assertEqual(text.split("\n")[3:], [f"wish 0 1 {wish[2]}" for wish in flat[3]])
        with self.assertRaises(NoText) as caught:
            read_house(text)
        self.assertEqual(caught.exception.at, 3)

    def test_what_is_handed_in_stays(self):
        names, house = copy.deepcopy((NAMES, HOUSE))
        house_text(names, house)
        self.assertEqual((names, house), (NAMES, HOUSE))


class ReadHouse(unittest.TestCase):

    def read(self, text):
        told = read_house(text)
        self.assertEqual([type(thing) for thing in (told, *told)], [tuple, list, tuple])
        self.assertEqual([type(thing) for thing in told[1]], [int, list, tuple, list])
        self.assertEqual(read_by(text), told)
        self.assertEqual(made_house(*told[1]), told[1])
        self.assertEqual(house_text(*told), text)
        return told

    def refused(self, at, text):
        with self.assertRaises(NoText) as caught:
            read_house(text)
        self.assertEqual((caught.exception.at, read_by(text)), (at, at), text)

    def changed(self, at, row, where=None):
        """The text with another row is refused there."""
        self.refused(at if where is None else where, "\n".join([*ROWS[:at], row, *ROWS[at + 1:]]))

    def test_what_was_written(self):
        self.assertEqual(self.read(TEXT), (NAMES, HOUSE))
        for text in ("names\nmusts", "names\nor\nmusts", "names a\nmusts", "names a\nor a\nmusts 0\nwish 0 4 1"):
            self.read(text)

    def test_made_up_houses(self):
        for handed in made_up_houses("texts", 150, most_names=8, most_rules=24, most_wishes=12, most_weight=10 ** 30):
            house = made_house(*handed)
            names = ["a", "b", "ab", "ba", "abcdefgh", "z", "names", "or"][:house[0]]
            self.assertEqual(self.read(house_text(names, house)), (names, house))
            self.assertEqual(self.read(house_text(tuple(names), house)), (names, house))

    def test_the_most(self):
        names = ["a" * many for many in range(1, 9)]
        house = made_house(8, [("or", (-1, 2, -3, 4, -5, 6, -7, 8))] * 23 + [("few", 24, tuple(range(23)))],
                           tuple(range(24)), [(23, 4, 10 ** 30)] * 12)
        self.read(house_text(names, house))

    def test_a_row_out(self):
        self.refused(0, "\n".join(ROWS[1:]))
        for at in (1, 2, 3):
            text = "\n".join(ROWS[:at] + ROWS[at + 1:])
            self.assertNotEqual(read_by(text), read_by(TEXT))
            self.refused(read_by(text), text)
        self.refused(7, "\n".join(ROWS[:7] + ROWS[8:]))
        for at in (8, 9, 10):
            self.read("\n".join(ROWS[:at] + ROWS[at + 1:]))

    def test_a_row_twice(self):
        self.refused(1, "\n".join([ROWS[0], *ROWS]))
        self.refused(8, "\n".join([*ROWS[:8], *ROWS[7:]]))
        self.read("\n".join([*ROWS, ROWS[-1]]))

    def test_rows_exchanged(self):
        self.refused(0, "\n".join([ROWS[1], ROWS[0], *ROWS[2:]]))
        self.refused(7, "\n".join([*ROWS[:7], ROWS[8], ROWS[7], *ROWS[9:]]))
        self.refused(6, "\n".join([*ROWS[:6], ROWS[7], ROWS[6], *ROWS[8:]]))
        self.refused(5, "\n".join([*ROWS[:5], ROWS[6], ROWS[5], *ROWS[7:]]))
        for rows in itertools.permutations(ROWS[:1] + ROWS[5:9]):
            text = "\n".join(rows)
            told = read_by(text)
            if isinstance(told, int):
                self.refused(told, text)

    def test_a_rule_behind_the_musts(self):
        for row in ROWS[1:7]:
            self.refused(8, "\n".join([*ROWS[:8], row, *ROWS[8:]]))
            self.refused(11, "\n".join([*ROWS, row]))
        self.refused(11, "\n".join([*ROWS, ROWS[0]]))

    def test_a_text_that_ends_too_early(self):
        self.refused(0, "")
        for many in range(1, 8):
            self.refused(many, "\n".join(ROWS[:many]))
        self.refused(1, "names")
        self.refused(25, "\n".join(["names", *["or"] * 24]))

    def test_line_feeds(self):
        self.refused(11, TEXT + "\n")
        self.refused(0, "\n" + TEXT)
        self.refused(0, "\n")
        self.refused(1, "names\n")
        self.refused(2, "names\nmusts\n")
        self.refused(1, "names\n\nmusts")
        for at in range(1, 11):
            self.refused(at, "\n".join([*ROWS[:at], "", *ROWS[at:]]))

    def test_blanks(self):
        for at, row in enumerate(ROWS):
            self.changed(at, row + " ")
            self.changed(at, " " + row)
            if " " in row:
                self.changed(at, row.replace(" ", "  ", 1))
                self.changed(at, row[::-1].replace(" ", "  ", 1)[::-1])
        self.refused(0, " ")

    def test_other_first_words(self):
        for at, row in enumerate(ROWS):
            for word in ("", "nor", "Or", "OR", "name", "must", "wishes", "-", "0", "musts:"):
                self.changed(at, " ".join([word, *row.split(" ")[1:]]))
            self.changed(at, " ".join(row.split(" ")[1:]))

    def test_names(self):
        for row in ("names ann bob cy dee ed flo gus hal ida", "names ann bob cy ann", "names ann bob bob",
                    "names ann bob cccccccca", "names ann bob Cy", "names ann bob -cy", "names ann bob c1",
                    "names ann bob c_y", "names ann bob c-y", "names ann bob 1", "names ann bob ~", "names ann bob {",
                    "names ann bob `", "names ann, bob cy", "nameS ann bob cy", "namesann bob cy"):
            self.changed(0, row)
        self.changed(0, "names ann bob", 3)
        self.changed(0, "names", 1)
        self.changed(0, "names cy ann bob", 3)
        self.read("\n".join(["names ann bob cy dee ed flo gus hal", *ROWS[1:]]))

    def test_words(self):
        for row in ("or ann -bob", "or ann ann", "or -ann ann", "or -bob ann ann", "or dee", "or -dee", "or --ann",
                    "or -", "or - ann", "or an", "or annn", "or Ann", "or 1", "or -1", "or ann-", "or +ann",
                    "or ann bob -cy", "or bob ann", "or ann, bob", "or -cy bob ann", "oR ann"):
            self.changed(1, row)
        for row in ("or ann", "or -ann", "or -cy -bob -ann", "or ann bob cy", "or -cy ann bob"):
            self.read("\n".join([*ROWS[:1], row, *ROWS[2:]]))

    def test_counts(self):
        for row in ("few", "few ann", "few -1", "few +1", "few 01", "few 00", "few 25", "few 1 5", "few 1 6",
                    "few 1 -1", "few 1 2 1", "few 1 1 1", "few 1 00", "few 1 01", "few 1 +1", "few 1 a", "few a 1",
                    "few 1.0", f"few {GREAT}", f"few {GREAT}9", f"few 1 {GREAT}", "few 1_0", "few 1 0_1", "few 0x1",
                    "few 1,2"):
            self.changed(5, row)
        for row in ("few 0", "few 24", "few 10 0 1 2 3", "few 1 3"):
            self.read("\n".join([*ROWS[:5], row, *ROWS[6:]]))

    def test_nots(self):
        for row in ("not", "not 5", "not 6", "not -1", "not 00", "not 01", "not +1", "not 0 1", "not ann", "not or",
                    f"not {GREAT}", "not 1.", "not 4-", "not 4 4"):
            self.changed(6, row)
        for number in range(5):
            self.read("\n".join([*ROWS[:6], f"not {number}", *ROWS[7:]]))

    def test_musts(self):
        for row in ("musts 5 0", "musts 0 0", "musts 6", "musts -1", "musts 00", "musts 05", "musts +5", "musts ann",
                    f"musts {GREAT}", "musts 0 5 6", "musts 0,5", "musts 0 5 5", "musts:", "musts -"):
            self.changed(7, row)
        for row in ("musts", "musts 0", "musts 0 1 2 3 4 5"):
            self.read("\n".join([*ROWS[:7], row, *ROWS[8:]]))

    def test_wishes(self):
        most = 10 ** 30
        for row in ("wish", "wish 0", "wish 0 1", "wish 0 1 1 1", "wish 6 1 1", "wish -1 1 1", "wish 0 0 1",
                    "wish 0 5 1", "wish 0 1 0", f"wish 0 1 {most + 1}", f"wish 0 1 {GREAT}", f"wish 0 1 {GREAT}9",
                    "wish 00 1 1", "wish 0 01 1", "wish 0 1 01", "wish 0 +1 1", "wish 0 1 +1", "wish 0 1 -1",
                    "wish ann 1 1", "wish 0 a 1", "wish 0 1 a", "wish 0 1 1.0", "wish 0 1 1_0", "wish 0,1,1"):
            for at in (8, 9, 10):
                self.changed(at, row)
        for row in ("wish 0 1 1", "wish 5 4 1", f"wish 5 4 {most}"):
            self.read("\n".join([*ROWS[:8], row, *ROWS[9:]]))

    def test_too_many_rules_and_wishes(self):
        self.read("\n".join(["names", *["or"] * 24, "musts"]))
        self.refused(25, "\n".join(["names", *["or"] * 25, "musts"]))
        self.refused(25, "\n".join(["names", *["or"] * 30]))
        self.read("\n".join(["names", "or", "musts", *["wish 0 1 1"] * 12]))
        self.refused(15, "\n".join(["names", "or", "musts", *["wish 0 1 1"] * 13]))

    def test_the_first_row_that_is_none(self):
        self.refused(1, "names ann\nor bob\nnot 9\nmusts 9\nwish")
        self.refused(2, "names ann\nor ann\nnot 9\nmusts 9\nwish")
        self.refused(3, "names ann\nor ann\nnot 0\nmusts 9\nwish")
        self.refused(4, "names ann\nor ann\nnot 0\nmusts 1\nwish")

    def test_changed_texts(self):
        chance = random.Random("changed texts")
        signs = [chr(code) for code in range(32, 127) if chr(code) != "%"]
        signs += ["\n", " "] * 10 + list("0123456789-") * 3
        many = [0, 0]
        for _ in range(4000):
            text = self.twisted(chance, TEXT, signs)
            told = read_by(text)
            many[isinstance(told, int)] += 1
            if isinstance(told, int):
                self.refused(told, text)
            else:
                self.read(text)
        self.assertGreater(min(many), 200)

    def twisted(self, chance, text, signs):
        """The text with a sign or a word out, put in or changed, or with two words exchanged."""
        at = chance.randrange(len(text))
        kind = chance.randrange(5)
        if kind == 0:
            return text[:at] + text[at + 1:]
        if kind == 1:
            return text[:at] + chance.choice(signs) + text[at:]
        if kind == 2:
            return text[:at] + chance.choice(signs) + text[at + 1:]
        parts = re.split("([ \n])", text)
        one, other = 2 * chance.randrange(len(parts) // 2), 2 * chance.randrange(len(parts) // 2)
        if kind == 3:
            parts[one], parts[other] = parts[other], parts[one]
        else:
            del parts[one:one + 2]
        return "".join(parts)

    def test_long_texts(self):
        for text in ("0" * 3000, " " * 3000, "\n" * 3000, "names " + "9" * 2990, "names\nfew " + "9" * 2980,
                     "names\nor\nmusts\nwish 0 1 " + "9" * 2970, "names\nor\nmusts " + "9" * 2970):
            self.refused(read_by(text), text)

    def test_what_is_told_is_the_askers_own(self):
        names, house = read_house(TEXT)
        names.append("more")
        house[1].clear()
        house[3].clear()
        self.assertEqual(read_house(TEXT), (NAMES, HOUSE))


if __name__ == "__main__":
    unittest.main()

"""11.1 and 11.2, with 0.2, 0.4 and 0.6 so far as they reach books."""

import copy
import random
import unittest

from tests.helpers import least_by, made_up_row
from wishdues.book import WishBook
from wishdues.errors import BadMust, BadRule, BadWish, NoNames, NothingDone, NoWish
from wishdues.houses import made_house
from wishdues.onebyone import told_clashes, told_right
from wishdues.trees import tree_ends

GREAT = int("9" * 60)
# What is no whole number.
THINGS = (None, True, False, "", "0", "1", "or", b"", b"0", [], [0], (), (0,), {}, {0: 1}, set(), {0}, frozenset(),
          range(1), object(), int, WishBook, 1j)
NO_RULES = (*THINGS, 0, -1, GREAT, ("or",), ("or", 1), ("or", (0,)), ("or", (3,)), ("or", (1, 1)), ("or", (1, -1)),
            ("or", (True,)), ("or", (1,), ()), ("few", 1), ("few", 1, 0), ("few", -1, ()), ("few", 25, ()),
            ("few", 1, (0, 0)), ("few", 1, (9,)), ("few", True, (0,)), ("not",), ("not", 9), ("not", -1), ("not", True),
            ("not", (0,)), ("nor", (1,)), (b"or", (1,)), ["few", 1, [None]], ["or", None], "or", [["or"], (1,)])


def standing_by(kept, house, ids):
    """The kept rows that stand, straight after 11.2."""
    numbers = {own: wish[0] for own, wish in zip(ids, house[3])}
    told = []
    for some, tree in kept:
        if some in [other for other, _ in told] or not set(some) <= set(numbers):
            continue
        if all(end in house[2] or end in [numbers[own] for own in some] for end in tree_ends(tree)):
            told.append((some, tree))
    return told


def told_state(book):
    return book.house_now(), book.wish_ids(), book.rows_standing()


def book_of(n, rows, musts=(), wishes=()):
    book = WishBook(n)
    for row in rows:
        book.lay_rule(row)
    for number in musts:
        book.make_must(number)
    for wish in wishes:
        book.come_wish(*wish)
    return book


class Begun(unittest.TestCase):

    def test_names(self):
        for n in range(9):
            book = WishBook(n)
            self.assertEqual(told_state(book), ((n, [], (), []), [], []))
        with self.assertRaises(NothingDone):
            book.take_back()

    def test_no_names(self):
        for thing in (*THINGS, -1, 9, GREAT, -GREAT):
            with self.assertRaises(NoNames):
                WishBook(thing)

    def test_two_books_are_apart(self):
        one, other = WishBook(2), WishBook(2)
        ahead = told_state(other)
        one.lay_rule(("or", (1,)))
        one.lay_rule(("or", (-1,)))
        one.make_must(0)
        one.come_wish(1, 1, 1)
        one.answer_now()
        self.assertEqual(told_state(other), ahead)
        with self.assertRaises(NothingDone):
            other.take_back()
        other.lay_rule(("or", (2,)))
        self.assertEqual(other.come_wish(0, 1, 1), 0)
        self.assertEqual(other.rows_standing(), [])
        self.assertEqual(len(one.rows_standing()), 1)


class Laid(unittest.TestCase):

    def test_numbers(self):
        book = WishBook(2)
        self.assertEqual(book.lay_rule(("or", (2, 1))), 0)
        self.assertEqual(book.lay_rule(["or", [-1]]), 1)
        self.assertEqual(book.lay_rule(["few", 24, [1, 0]]), 2)
        self.assertEqual(book.lay_rule(("not", 2)), 3)
        self.assertEqual(book.lay_rule(("or", [])), 4)
        rules = [("or", (1, 2)), ("or", (-1,)), ("few", 24, (0, 1)), ("not", 2), ("or", ())]
        self.assertEqual(book.house_now(), (2, rules, (), []))

    def refused(self, book, row):
        ahead = told_state(book)
        with self.assertRaises(BadRule) as caught:
            book.lay_rule(row)
        self.assertEqual(caught.exception.at, len(ahead[0][1]))
        self.assertEqual(told_state(book), ahead)

    def test_what_is_no_rule(self):
        for book in (WishBook(2), book_of(2, [("or", (1,))]), book_of(2, [("or", (1,)), ("not", 0)])):
            for row in NO_RULES:
                self.refused(book, row)
        self.refused(WishBook(2), ("not", 0))
        self.refused(WishBook(2), ("few", 0, (0,)))
        self.refused(WishBook(0), ("or", (1,)))

    def test_the_25th(self):
        book = WishBook(1)
        for number in range(24):
            self.assertEqual(book.lay_rule(("or", (1,))), number)
        self.refused(book, ("or", (1,)))
        self.refused(book, None)
        book.make_must(23)
        self.assertEqual(book.come_wish(23, 1, 1), 0)

    def test_rules_are_no_deeds(self):
        book = book_of(1, [("or", (1,))])
        with self.assertRaises(NothingDone):
            book.take_back()
        book.make_must(0)
        book.lay_rule(("or", (-1,)))
        book.take_back()
        self.assertEqual(book.house_now(), (1, [("or", (1,)), ("or", (-1,))], (), []))
        with self.assertRaises(NothingDone):
            book.take_back()

    def test_what_is_handed_in_is_not_kept(self):
        words, numbers = [2, 1], [0]
        row, other = ["or", words], ["few", 1, numbers]
        book = book_of(2, [row, other])
        self.assertEqual((row, other), (["or", [2, 1]], ["few", 1, [0]]))
        words.append(3)
        numbers.clear()
        row[0] = "not"
        self.assertEqual(book.house_now()[1], [("or", (1, 2)), ("few", 1, (0,))])


class Musts(unittest.TestCase):

    def setUp(self):
        self.book = book_of(1, [("or", (1,)), ("or", (-1,)), ("or", ())])

    def refused(self, deed, thing):
        ahead = told_state(self.book)
        with self.assertRaises(BadMust) as caught:
            deed(thing)
        self.assertEqual(caught.exception.at, 0)
        self.assertEqual(told_state(self.book), ahead)

    def test_made_and_freed(self):
        for number, musts in ((2, (2,)), (0, (0, 2)), (1, (0, 1, 2))):
            self.assertIsNone(self.book.make_must(number))
            self.assertEqual(self.book.house_now()[2], musts)
        for number, musts in ((1, (0, 2)), (0, (2,)), (2, ())):
            self.assertIsNone(self.book.free_must(number))
            self.assertEqual(self.book.house_now()[2], musts)
        for musts in ((2,), (0, 2), (0, 1, 2), (0, 2), (2,), ()):
            self.assertIsNone(self.book.take_back())
            self.assertEqual(self.book.house_now()[2], musts)

    def test_anything(self):
        self.book.make_must(1)
        for thing in (*THINGS, -1, -2, 3, 24, GREAT, -GREAT):
            self.refused(self.book.make_must, thing)
            self.refused(self.book.free_must, thing)

    def test_a_must_already_and_one_that_is_none(self):
        self.book.make_must(1)
        self.refused(self.book.make_must, 1)
        self.refused(self.book.free_must, 0)
        self.book.free_must(1)
        self.refused(self.book.free_must, 1)
        self.book.take_back()
        self.refused(self.book.make_must, 1)

    def test_what_is_refused_is_no_deed(self):
        self.book.make_must(1)
        self.refused(self.book.make_must, 1)
        self.refused(self.book.free_must, 2)
        self.book.take_back()
        with self.assertRaises(NothingDone):
            self.book.take_back()


class Wishes(unittest.TestCase):

    def setUp(self):
        self.book = book_of(1, [("or", (1,)), ("or", (-1,))])

    def refused(self, *wish):
        ahead = told_state(self.book)
        with self.assertRaises(BadWish) as caught:
            self.book.come_wish(*wish)
        self.assertEqual(caught.exception.at, 0)
        self.assertEqual(told_state(self.book), ahead)

    def test_ids(self):
        for own in range(8):
            self.assertEqual(self.book.come_wish(own % 2, 1 + own % 4, 1 + own), own)
            self.assertEqual(self.book.wish_ids(), list(range(own + 1)))
        self.assertIsNone(self.book.drop_wish(3))
        self.assertEqual(self.book.wish_ids(), [0, 1, 2, 4, 5, 6, 7])
        self.assertEqual(self.book.come_wish(0, 1, 1), 8)
        self.assertEqual(self.book.wish_ids(), [0, 1, 2, 4, 5, 6, 7, 8])
        self.assertEqual(self.book.house_now()[3], [(0, 1, 1), (1, 2, 2), (0, 3, 3), (0, 1, 5), (1, 2, 6), (0, 3, 7),
                                                    (1, 4, 8), (0, 1, 1)])

    def test_ids_whatever_was_taken_back(self):
        self.assertEqual(self.book.come_wish(0, 1, 1), 0)
        self.book.take_back()
        self.assertEqual(self.book.wish_ids(), [])
        self.assertEqual(self.book.come_wish(1, 1, 1), 1)
        self.book.drop_wish(1)
        self.assertEqual(self.book.come_wish(0, 2, 2), 2)
        self.book.take_back()
        self.book.take_back()
        self.assertEqual(self.book.wish_ids(), [1])
        self.assertEqual(self.book.come_wish(0, 3, 3), 3)
        self.assertEqual(self.book.house_now()[3], [(1, 1, 1), (0, 3, 3)])

    def test_the_next_id_behind_refusals(self):
        self.refused(2, 1, 1)
        self.assertEqual(self.book.come_wish(0, 1, 1), 0)
        self.refused(0, 5, 1)
        self.assertEqual(self.book.come_wish(0, 1, 1), 1)

    def test_a_wish_that_comes_back_has_its_own_id(self):
        for own in range(4):
            self.book.come_wish(own % 2, 1, 1 + own)
        self.book.drop_wish(1)
        self.book.come_wish(0, 1, 9)
        self.book.take_back()
        self.book.take_back()
        self.assertEqual(self.book.wish_ids(), [0, 1, 2, 3])
        self.assertEqual(self.book.house_now()[3], [(0, 1, 1), (1, 1, 2), (0, 1, 3), (1, 1, 4)])
        self.book.drop_wish(1)
        self.assertEqual(self.book.wish_ids(), [0, 2, 3])

    def test_anything(self):
        for thing in (*THINGS, -1, GREAT, -GREAT):
            self.refused(thing, 1, 1)
            self.refused(0, thing, 1)
            if thing != GREAT:
                self.refused(0, 1, thing)
            self.refused(thing, thing, thing)
        for wish in ((2, 1, 1), (24, 1, 1), (0, 0, 1), (0, 5, 1), (0, 1, 0), (0, 1, 10 ** 30 + 1), (0, 1, GREAT)):
            self.refused(*wish)
        self.assertEqual(self.book.come_wish(1, 4, 10 ** 30), 0)
        self.assertEqual(self.book.come_wish(0, 1, 1), 1)

    def test_of_no_rules(self):
        self.book = WishBook(1)
        self.refused(0, 1, 1)

    def test_the_9th_that_is_there(self):
        for own in range(8):
            self.book.come_wish(0, 1, 1)
        self.refused(0, 1, 1)
        self.refused(9, 9, 9)
        self.book.take_back()
        self.assertEqual(self.book.come_wish(0, 1, 1), 8)
        self.refused(0, 1, 1)
        self.book.drop_wish(0)
        self.assertEqual(self.book.come_wish(0, 1, 1), 9)
        self.refused(0, 1, 1)

    def test_no_such_wish(self):
        self.book.come_wish(0, 1, 1)
        self.book.come_wish(1, 1, 1)
        self.book.drop_wish(0)
        ahead = told_state(self.book)
        for thing in (*THINGS, 0, 2, -1, GREAT, -GREAT):
            with self.assertRaises(NoWish):
                self.book.drop_wish(thing)
            self.assertEqual(told_state(self.book), ahead)
        self.book.take_back()
        self.book.take_back()
        with self.assertRaises(NoWish):
            self.book.drop_wish(1)
        self.book.drop_wish(0)

    def test_a_refused_drop_is_no_deed(self):
        self.book.come_wish(0, 1, 1)
        with self.assertRaises(NoWish):
            self.book.drop_wish(1)
        self.book.take_back()
        with self.assertRaises(NothingDone):
            self.book.take_back()


class TakenBack(unittest.TestCase):

    def test_a_hundred_deeds_and_more(self):
        chance = random.Random("deeds")
        book = book_of(3, [("or", (1,)), ("or", (-2,)), ("or", (-1, 2)), ("few", 1, (0, 1)), ("not", 3)])
        states, told = [], []
        while len(states) < 150:
            ahead = told_state(book)[:2]
            ids, musts = ahead[1], ahead[0][2]
            kind = chance.choice(("must", "free", "wish", "drop"))
            if kind == "must" and len(musts) < 5:
                book.make_must(chance.choice([number for number in range(5) if number not in musts]))
            elif kind == "free" and musts:
                book.free_must(chance.choice(musts))
            elif kind == "wish" and len(ids) < 8:
                told.append(book.come_wish(chance.randrange(5), chance.randint(1, 4), chance.randint(1, 9)))
            elif kind == "drop" and ids:
                book.drop_wish(chance.choice(ids))
            else:
                continue
            states.append(ahead)
            if chance.random() < 0.2:
                book.answer_now()
        self.assertEqual(told, list(range(len(told))))
        while states:
            self.assertIsNone(book.take_back())
            self.assertEqual(told_state(book)[:2], states.pop())
        with self.assertRaises(NothingDone):
            book.take_back()
        self.assertEqual(book.come_wish(0, 1, 1), len(told))

    def test_what_is_taken_back_is_gone(self):
        book = book_of(1, [("or", (1,)), ("or", (-1,))])
        book.make_must(0)
        book.make_must(1)
        book.take_back()
        book.come_wish(1, 1, 1)
        book.take_back()
        book.take_back()
        self.assertEqual(book.house_now()[2:], ((), []))
        with self.assertRaises(NothingDone):
            book.take_back()


class Answers(unittest.TestCase):

    def look_at(self, book, kept):
        """The book's answer, held against its house and the rows kept so far, to which the new ones come."""
        house, ids = book.house_now(), book.wish_ids()
        standing = standing_by(kept, house, ids)
        self.assertEqual(book.rows_standing(), standing)
        told = book.answer_now()
        self.assertIs(told_right(house, told), True)
        self.assertEqual((book.house_now(), book.wish_ids()), (house, ids))
        if told[0] == "never":
            self.assertIsNone(least_by(house))
            self.assertEqual(book.rows_standing(), standing)
        else:
            self.assertEqual((told[0], told[1]), ("best", least_by(house)))
            self.assertEqual([type(thing) for thing in told[1:]], [tuple, tuple, list, tuple])
            by_ids = [(tuple(ids[place] for place in places), tree) for places, tree in told[3]]
            self.assertEqual(by_ids[:len(standing)], standing)
            kept += by_ids[len(standing):]
            self.assertEqual(book.rows_standing(), by_ids)
        self.assertEqual(book.answer_now(), told)
        self.assertEqual(book.rows_standing(), standing_by(kept, house, ids))
        return told

    def test_of_an_empty_book(self):
        for n in range(9):
            told = self.look_at(WishBook(n), [])
            self.assertEqual((told[:2], len(told[2]), told[3:]), (("best", ()), n, ([], ("taken",))))

    def test_as_if_told_anew(self):
        house = made_house(2, [("or", (1,)), ("or", (-1,)), ("or", (2,))], (2,), [(0, 1, 2), (1, 1, 3), (0, 2, 1)])
        book = book_of(*house)
        self.assertEqual(book.house_now(), house)
        self.assertEqual(self.look_at(book, []), told_clashes(house))

    def test_rows_stand_with_their_wishes(self):
        book = book_of(2, [("or", (1,)), ("or", (-1,)), ("or", (2,))], (), [(2, 1, 1), (0, 1, 2), (1, 1, 3)])
        kept = []
        self.look_at(book, kept)
        self.assertEqual([ids for ids, _ in kept], [(1, 2)])
        book.drop_wish(0)
        self.assertEqual(book.rows_standing(), kept)
        self.assertEqual([places for places, _ in self.look_at(book, kept)[3]], [(0, 1)])
        book.drop_wish(2)
        self.assertEqual(book.rows_standing(), [])
        self.look_at(book, kept)
        # Another wish of the same rule is another wish.
        self.assertEqual(book.come_wish(1, 1, 3), 3)
        self.assertEqual(book.rows_standing(), [])
        self.look_at(book, kept)
        self.assertEqual([ids for ids, _ in kept], [(1, 2), (1, 3)])
        book.take_back()
        book.take_back()
        self.assertEqual(book.rows_standing(), kept[:1])
        book.come_wish(2, 1, 1)
        self.assertEqual(book.rows_standing(), kept[:1])
        self.look_at(book, kept)

    def test_rows_stand_with_the_musts_they_rest_on(self):
        book = book_of(2, [("or", (1,)), ("or", (-2, -1)), ("or", (2,)), ("or", (1, 2))], (1, 2, 3), [(0, 1, 5)])
        kept = []
        self.look_at(book, kept)
        self.assertEqual([(ids, tree_ends(tree)) for ids, tree in kept], [((0,), (0, 1, 2))])
        book.free_must(3)
        self.assertEqual(book.rows_standing(), kept)
        book.free_must(1)
        self.assertEqual(book.rows_standing(), [])
        self.assertEqual(self.look_at(book, kept)[1], (0,))
        book.take_back()
        self.assertEqual(book.rows_standing(), kept)
        book.free_must(2)
        self.assertEqual(book.rows_standing(), [])
        book.make_must(2)
        self.assertEqual(book.rows_standing(), kept)
        self.assertEqual(self.look_at(book, kept)[3], [((0,), kept[0][1])])

    def test_an_end_that_is_another_wishs_rule(self):
        # The row rests on rule 1 as a must: another wish of that rule does not bear it.
        book = book_of(1, [("or", (1,)), ("or", (-1,))], (1,), [(0, 1, 5), (1, 1, 1)])
        kept = []
        self.look_at(book, kept)
        self.assertEqual([ids for ids, _ in kept], [(0,)])
        book.free_must(1)
        self.assertEqual(book.rows_standing(), [])
        self.look_at(book, kept)
        self.assertEqual([ids for ids, _ in kept], [(0,), (0, 1)])
        # Of a must all that stand come, also those with more wishes than needed.
        book.take_back()
        self.assertEqual(book.rows_standing(), kept)
        self.look_at(book, kept)
        self.assertEqual(len(kept), 2)

    def test_a_wish_of_a_must(self):
        book = book_of(1, [("or", (1,)), ("or", (-1,))], (), [(0, 1, 1), (1, 1, 5)])
        kept = []
        self.look_at(book, kept)
        book.make_must(0)
        self.assertEqual(book.rows_standing(), kept)
        self.look_at(book, kept)
        self.assertEqual([ids for ids, _ in kept], [(0, 1), (1,)])

    def test_of_the_same_ids_the_elder_one_alone(self):
        book = book_of(2, [("or", (1,)), ("or", (-1,)), ("or", (-2, -1)), ("or", (-1, 2))], (1,), [(0, 1, 5)])
        kept = []
        self.look_at(book, kept)
        book.free_must(1)
        book.make_must(2)
        book.make_must(3)
        self.look_at(book, kept)
        self.assertEqual([(ids, tree_ends(tree)) for ids, tree in kept], [((0,), (0, 1)), ((0,), (0, 2, 3))])
        self.assertEqual(book.rows_standing(), kept[1:])
        book.make_must(1)
        self.assertEqual(book.rows_standing(), kept[:1])
        self.assertEqual(self.look_at(book, kept)[3], kept[:1])
        book.free_must(1)
        self.assertEqual(book.rows_standing(), kept[1:])
        book.free_must(2)
        self.assertEqual(book.rows_standing(), [])
        self.assertEqual(len(kept), 2)

    def test_never_keeps_no_row(self):
        book = book_of(1, [("or", (1,)), ("or", (-1,))], (0, 1), [(0, 1, 5), (1, 1, 1)])
        kept = []
        self.assertEqual(self.look_at(book, kept)[0], "never")
        self.assertEqual(book.rows_standing(), [])
        book.free_must(0)
        self.assertEqual(book.rows_standing(), [])
        self.look_at(book, kept)
        self.assertEqual(len(kept), 1)
        # The row stands, though the answer is never.
        book.make_must(0)
        self.assertEqual(book.rows_standing(), kept)
        self.assertEqual(self.look_at(book, kept)[0], "never")
        self.assertEqual(book.rows_standing(), kept)

    def test_told_hangs_on_the_house_and_the_standing_rows_alone(self):
        rows = [("or", (1,)), ("or", (-2, -1)), ("or", (2,)), ("or", (-2, -1))]
        one = book_of(2, rows, (), [(0, 1, 5), (2, 1, 3), (3, 2, 1)])
        other = book_of(2, rows, (), [(0, 1, 5), (2, 1, 3), (3, 2, 1)])
        other.make_must(1)
        other.answer_now()
        self.assertEqual([ids for ids, _ in other.rows_standing()], [(0, 1)])
        other.free_must(1)
        self.assertEqual(other.rows_standing(), [])
        self.assertEqual(other.answer_now(), one.answer_now())
        self.assertEqual([ids for ids, _ in other.rows_standing()], [(0, 1, 2)])
        self.assertEqual(other.rows_standing(), one.rows_standing())

    def test_answers_are_no_deeds(self):
        book = book_of(1, [("or", (1,)), ("or", (-1,))])
        book.answer_now()
        with self.assertRaises(NothingDone):
            book.take_back()
        book.come_wish(0, 1, 1)
        book.answer_now()
        book.take_back()
        self.assertEqual(book.wish_ids(), [])

    def test_made_up_books(self):
        chance = random.Random("books")
        many = {"best": 0, "never": 0}
        most = elder = 0
        for _ in range(120):
            n = chance.randint(0, 4)
            book, kept = WishBook(n), []
            for _ in range(120):
                self.one_deed(chance, n, book)
                self.assertEqual(book.rows_standing(), standing_by(kept, book.house_now(), book.wish_ids()))
                if chance.random() < 0.3:
                    told = self.look_at(book, kept)
                    many[told[0]] += 1
                    most = max(most, len(told[3]) if told[0] == "best" else 0)
            elder += len(kept) - len({ids for ids, _ in kept})
        self.assertGreater(min(many.values()), 50)
        self.assertGreater(most, 6)
        self.assertGreater(elder, 1)

    def one_deed(self, chance, n, book):
        """A deed, or a rule more, where it can be."""
        house, ids, _ = told_state(book)
        rules, musts = house[1], house[2]
        kind = chance.choice(("rule", "must", "must", "must", "free", "free", "free", "free", "wish", "wish", "drop",
                              "back"))
        if kind == "rule" and len(rules) < 12:
            book.lay_rule(made_up_row(chance, n, len(rules)))
        elif kind == "must" and len(musts) < len(rules):
            book.make_must(chance.choice([number for number in range(len(rules)) if number not in musts]))
        elif kind == "free" and musts:
            book.free_must(chance.choice(musts))
        elif kind == "wish" and rules and len(ids) < 8:
            book.come_wish(chance.randrange(len(rules)), chance.randint(1, 4), chance.choice((1, 2, 3, 10 ** 30)))
        elif kind == "drop" and ids:
            book.drop_wish(chance.choice(ids))
        elif kind == "back":
            try:
                book.take_back()
            except NothingDone:
                pass

    def test_what_is_told_is_the_askers_own(self):
        book = book_of(1, [("or", (1,)), ("or", (-1,))], (0,), [(1, 1, 1), (0, 2, 2)])
        told = [book.answer_now(), book.house_now(), book.wish_ids(), book.rows_standing()]
        kept = copy.deepcopy(told)
        told[0][3].clear()
        told[1][1].append("more")
        told[1][3].clear()
        told[2].append(7)
        told[3].clear()
        self.assertEqual([book.answer_now(), book.house_now(), book.wish_ids(), book.rows_standing()], kept)
        self.assertEqual(book.come_wish(0, 1, 1), 2)

    def test_kinds(self):
        book = book_of(1, [("or", (1,)), ("or", (-1,))], (0,), [(1, 1, 1), (0, 2, 2)])
        book.answer_now()
        self.assertEqual([type(thing) for thing in book.house_now()], [int, list, tuple, list])
        self.assertEqual([type(thing) for thing in (book.wish_ids(), book.rows_standing())], [list, list])
        for row in book.rows_standing():
            self.assertEqual([type(thing) for thing in (row, *row)], [tuple] * 3)


if __name__ == "__main__":
    unittest.main()

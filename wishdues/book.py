"""A book in which rules come, and musts and wishes come and go, with clashes that are kept."""

from wishdues.errors import BadMust, BadRule, BadWish, NoNames, NothingDone, NoWish
from wishdues.houses import is_number, is_wish
from wishdues.onebyone import told_beyond
from wishdues.rules import MOST_NAMES, is_whole, made_rule
from wishdues.trees import together, tree_ends

MOST_BOOK_WISHES = 8


class WishBook:
    """A house to which rules come, with deeds on its musts and wishes that can be taken back."""

    def __init__(self, n):
        if not is_whole(n, 0, MOST_NAMES):
            raise NoNames("names are a number from 0 to 8")
        self.n = n
        self.rules = []
        self.musts = ()
        # By their ids, rising. Musts and wishes are never changed in place, so a deed can keep those ahead of it.
        self.wishes = {}
        self.next_id = 0
        self.deeds = []
        self.kept_rows = []

    def do_deed(self, musts, wishes):
        """Put new musts and wishes, and keep those ahead so that they can be taken back."""
        self.deeds.append((self.musts, self.wishes))
        self.musts = musts
        self.wishes = wishes

    def lay_rule(self, row):
        """Lay a rule behind the others and tell its number."""
        number = len(self.rules)
        rule = made_rule(self.n, number, row)
        if rule is None:
            raise BadRule(number)
        self.rules.append(rule)
        return number

    def make_must(self, number):
        """Make a rule a must."""
        if not is_number(self.rules, number) or number in self.musts:
            raise BadMust(0)
        self.do_deed(together(self.musts, [number]), self.wishes)

    def free_must(self, number):
        """Make a must none any longer."""
        if not is_number(self.rules, number) or number not in self.musts:
            raise BadMust(0)
        self.do_deed(tuple([must for must in self.musts if must != number]), self.wishes)

    def come_wish(self, number, rank, weight):
        """Let a wish come and tell its id."""
        wish = (number, rank, weight)
        if not is_wish(self.rules, wish) or len(self.wishes) >= MOST_BOOK_WISHES:
            raise BadWish(0)
        own_id = self.next_id
        self.next_id += 1
        self.do_deed(self.musts, {**self.wishes, own_id: wish})
        return own_id

    def drop_wish(self, wish):
        """Let the wish with this id go."""
        if not is_whole(wish, 0, self.next_id) or wish not in self.wishes:
            raise NoWish("there is no such wish")
        self.do_deed(self.musts, {own_id: self.wishes[own_id] for own_id in self.wishes if own_id != wish})

    def take_back(self):
        """Take the last deed back."""
        if len(self.deeds) == 0:
            raise NothingDone("there is no deed to take back")
        self.musts, self.wishes = self.deeds.pop()

    def house_now(self):
        """The house of the book, its wishes rising by their ids."""
        return self.n, list(self.rules), self.musts, list(self.wishes.values())

    def wish_ids(self):
        """The rising list of the ids of the wishes that are there."""
        return list(self.wishes)

    def row_stands(self, ids, tree):
        """Whether these wishes are there and clash by the tree with what are musts now."""
        if not all([own_id in self.wishes for own_id in ids]):
            return False
        numbers = together(self.musts, [self.wishes[own_id][0] for own_id in ids])
        return all([number in numbers for number in tree_ends(tree)])

    def rows_standing(self):
        """The kept rows that stand, in the order in which they were kept."""
        standing = {}
        for ids, tree in self.kept_rows:
            if ids not in standing and self.row_stands(ids, tree):
                standing[ids] = tree
        return list(standing.items())

    def answer_now(self):
        """What is told of the book's house, its rows beginning with all that stand."""
        ids = self.wish_ids()
        rows = [(tuple([ids.index(own_id) for own_id in some]), tree) for some, tree in self.rows_standing()]
        told = told_beyond(self.house_now(), rows)
        if told[0] == "best":
            for places, tree in told[3][len(rows):]:
                self.kept_rows.append((tuple([ids[place] for place in places]), tree))
        return told

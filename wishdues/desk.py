"""A desk that is told rows of a book and answers with texts."""

from wishdues.book import WishBook
from wishdues.errors import NoBook, NoName, NoPeace, NoRow
from wishdues.houses import best_settings
from wishdues.nearest import nearest_best
from wishdues.says import name_says
from wishdues.texts import are_names, figures, is_name, read_number, rule_row

# How many numbers stand in a row, by its first word.
NUMBERS = {"not": 1, "must": 1, "free": 1, "drop": 1, "wish": 3, "undo": 0, "best": 0, "rows": 0, "says": 0}


def bare_name(word):
    """The name of a word."""
    return word.removeprefix("-")


def is_formed(words):
    """Whether words have the form of a row of the desk."""
    rest = words[1:]
    if words[0] == "names":
        return are_names(rest)
    if words[0] in ("or", "near"):
        return all([is_name(bare_name(word)) for word in rest])
    if not all([read_number(word) is not None for word in rest]):
        return False
    if words[0] == "few":
        return len(rest) >= 1
    return NUMBERS.get(words[0]) == len(rest)


def has_names(names, words):
    """Whether a row has words of these names alone, and near just one of each in turn."""
    told = [bare_name(word) for word in words[1:]]
    if words[0] == "near":
        return told == names
    return words[0] != "or" or all([name in names for name in told])


def setting_text(names, numbers, setting):
    """Some numbers, and the names that a setting says yes of."""
    yes = [name for name, mark in zip(names, setting) if mark == 1]
    return " ".join(figures(numbers) + [":"] + yes)


def tell_rule(names, book, words):
    """Lay a rule."""
    return str(book.lay_rule(rule_row(names, words)))


def tell_must(names, book, words):
    """Make a must."""
    book.make_must(read_number(words[1]))
    return "ok"


def tell_free(names, book, words):
    """Free a must."""
    book.free_must(read_number(words[1]))
    return "ok"


def tell_wish(names, book, words):
    """Let a wish come."""
    number, rank, weight = [read_number(word) for word in words[1:]]
    return str(book.come_wish(number, rank, weight))


def tell_drop(names, book, words):
    """Let a wish go."""
    book.drop_wish(read_number(words[1]))
    return "ok"


def tell_undo(names, book, words):
    """Take the last deed back."""
    book.take_back()
    return "ok"


def tell_best(names, book, words):
    """Ask the book's answer."""
    told = book.answer_now()
    if told[0] == "never":
        return "never"
    return setting_text(names, told[1], best_settings(book.house_now())[0])


def tell_rows(names, book, words):
    """Ask how many rows stand."""
    return str(len(book.rows_standing()))


def tell_says(names, book, words):
    """Ask what the best settings say of each name."""
    try:
        told = [said[0] for said in name_says(book.house_now())]
    except NoPeace:
        return "never"
    return " ".join(told) if len(told) > 0 else "-"


def tell_near(names, book, words):
    """Ask for the best setting that is nearest to one."""
    elder = tuple([0 if word.startswith("-") else 1 for word in words[1:]])
    try:
        many, setting = nearest_best(book.house_now(), elder)
    except NoPeace:
        return "never"
    return setting_text(names, [many], setting)


TELLINGS = {"or": tell_rule, "few": tell_rule, "not": tell_rule, "must": tell_must, "free": tell_free,
            "wish": tell_wish, "drop": tell_drop, "undo": tell_undo, "best": tell_best, "rows": tell_rows,
            "says": tell_says, "near": tell_near}


class WishDesk:
    """A book and its names, told by rows."""

    def __init__(self):
        self.names = []
        self.book = None

    def say(self, row):
        """Tell a row and hear the answer."""
        words = row.split(" ")
        if not is_formed(words):
            raise NoRow("the desk knows no such row")
        if words[0] == "names":
            self.names = words[1:]
            self.book = WishBook(len(self.names))
            return "ok"
        if self.book is None:
            raise NoBook("there is no book yet")
        if not has_names(self.names, words):
            raise NoName("the book has other names")
        telling = TELLINGS[words[0]]
        return telling(self.names, self.book, words)

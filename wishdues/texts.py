"""Houses written as texts, and read."""

from wishdues.errors import NoText
from wishdues.houses import MOST_WISHES, is_number, is_wish
from wishdues.rules import MOST_NAMES, has_twice, is_rising, made_rule

MOST_LETTERS = 8
MOST_FIGURES = 60


def is_name(text):
    """Whether a text is a name."""
    return 1 <= len(text) <= MOST_LETTERS and all(["a" <= letter <= "z" for letter in text])


def are_names(words):
    """Whether these words are unlike names, and not too many."""
    return len(words) <= MOST_NAMES and all([is_name(word) for word in words]) and not has_twice(words)


def word_text(names, word):
    """The text of a word."""
    return names[word - 1] if word > 0 else "-" + names[-word - 1]


def figures(numbers):
    """The texts of some numbers."""
    return [str(number) for number in numbers]


def rule_words(names, rule):
    """The words of the row of a rule."""
    if rule[0] == "or":
        return ["or"] + [word_text(names, word) for word in rule[1]]
    if rule[0] == "few":
        return ["few", str(rule[1])] + figures(rule[2])
    return ["not", str(rule[1])]


def house_text(names, house):
    """The text of a house, with names for its names."""
    n, rules, musts, wishes = house
    rows = [["names", *names]]
    rows += [rule_words(names, rule) for rule in rules]
    rows.append(["musts"] + figures(musts))
    rows += [["wish"] + figures(wish) for wish in wishes]
    return "\n".join([" ".join(words) for words in rows])


def read_number(text):
    """The number that a text writes, or None where it writes none of at most sixty figures."""
    if not 1 <= len(text) <= MOST_FIGURES or not all(["0" <= figure <= "9" for figure in text]):
        return None
    number = int(text)
    # So no number has a nought ahead.
    return number if str(number) == text else None


def read_word(names, text):
    """The word that a text writes, or None where it has none of the names."""
    name = text.removeprefix("-")
    if name not in names:
        return None
    number = names.index(name) + 1
    return number if name == text else -number


def rule_row(names, words):
    """What the words of a row tell of a rule, None standing for each that tells nothing."""
    if words[0] == "or":
        return ["or", [read_word(names, word) for word in words[1:]]]
    numbers = [read_number(word) for word in words[1:]]
    if words[0] == "few":
        return ["few"] + numbers[:1] + [numbers[1:]]
    return [words[0]] + numbers


def read_rules(names, rows):
    """The rules that the rows behind the names write, up to the musts."""
    rules = []
    for words in rows[1:]:
        if words[0] == "musts":
            return rules
        rule = made_rule(len(names), len(rules), rule_row(names, words))
        # What is made of words in another order isn't written so.
        if rule is None or rule_words(names, rule) != words:
            raise NoText(1 + len(rules))
        rules.append(rule)
    raise NoText(len(rows))


def read_musts(rules, words):
    """The musts that the words of a row write, or None where they write none."""
    numbers = [read_number(word) for word in words[1:]]
    if not all([is_number(rules, number) for number in numbers]) or not is_rising(numbers):
        return None
    return tuple(numbers)


def read_wish(rules, words):
    """The wish that the words of a row write, or None where they write none."""
    numbers = [read_number(word) for word in words[1:]]
    if words[0] != "wish" or not is_wish(rules, numbers):
        return None
    return tuple(numbers)


def read_house(text):
    """The names and the house that a text writes."""
    rows = [row.split(" ") for row in text.split("\n")]
    names = rows[0][1:]
    if rows[0][0] != "names" or not are_names(names):
        raise NoText(0)
    rules = read_rules(names, rows)
    at = 1 + len(rules)
    musts = read_musts(rules, rows[at])
    if musts is None:
        raise NoText(at)
    wishes = []
    for words in rows[at + 1:]:
        wish = read_wish(rules, words)
        if wish is None or len(wishes) >= MOST_WISHES:
            raise NoText(at + 1 + len(wishes))
        wishes.append(wish)
    return names, (len(names), rules, musts, wishes)

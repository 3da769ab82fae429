"""Rules over names, and what settings and partial settings make of them."""

from wishdues.errors import BadRule, NoNames

MOST_NAMES = 8
MOST_RULES = 24
MOST_BROKEN = 24


def is_whole(thing, low, high):
    """Whether a thing is a whole number from low to high."""
    # True and False are ints to Python, but no numbers here.
    return isinstance(thing, int) and not isinstance(thing, bool) and low <= thing <= high


def is_row(thing):
    """Whether a thing is a list or a tuple."""
    return isinstance(thing, (list, tuple))


def is_rising(numbers):
    """Whether each number of a row is greater than the one ahead of it."""
    return all([numbers[at - 1] < numbers[at] for at in range(1, len(numbers))])


def has_twice(things):
    """Whether a thing stands more than once in a row of numbers, of texts or of tuples of numbers."""
    return len(set(things)) < len(things)


def is_word(n, thing):
    """Whether a thing is a word of one of n names."""
    return is_whole(thing, -n, n) and thing != 0


def made_or(n, words):
    """The either-or of these words, or None where they make none."""
    if not is_row(words) or not all([is_word(n, word) for word in words]):
        return None
    if has_twice([abs(word) for word in words]):
        return None
    return ("or", tuple(sorted(words)))


def made_few(at, most, numbers):
    """The count of these rules, put at a place, or None where they make none."""
    if not is_whole(most, 0, MOST_BROKEN) or not is_row(numbers):
        return None
    if not all([is_whole(number, 0, at - 1) for number in numbers]):
        return None
    if has_twice(numbers):
        return None
    return ("few", most, tuple(sorted(numbers)))


def made_not(at, number):
    """The not of this rule, put at a place, or None where it makes none."""
    if not is_whole(number, 0, at - 1):
        return None
    return ("not", number)


def made_rule(n, at, row):
    """The rule that a row makes at a place of a list, or None where it makes none there."""
    if at >= MOST_RULES or not is_row(row) or len(row) == 0:
        return None
    # What stands first may be anything, and only of texts it is sure what they are like.
    if not isinstance(row[0], str):
        return None
    if row[0] == "or" and len(row) == 2:
        return made_or(n, row[1])
    if row[0] == "few" and len(row) == 3:
        return made_few(at, row[1], row[2])
    if row[0] == "not" and len(row) == 2:
        return made_not(at, row[1])
    return None


def made_rules(n, rows):
    """The list of rules that a row of rows makes."""
    if not is_whole(n, 0, MOST_NAMES):
        raise NoNames("names are a number from 0 to 8")
    if not is_row(rows):
        raise BadRule(-1)
    rules = []
    for at, row in enumerate(rows):
        rule = made_rule(n, at, row)
        if rule is None:
            raise BadRule(at)
        rules.append(rule)
    return rules


def word_right(word, setting):
    """Whether a word is right of a setting; of an open name neither word is."""
    return setting[abs(word) - 1] == (1 if word > 0 else 0)


def rule_kept(rule, kept, setting):
    """Whether a setting keeps a rule, kept telling it of the rules ahead."""
    if rule[0] == "or":
        return any([word_right(word, setting) for word in rule[1]])
    if rule[0] == "few":
        broken = [number for number in rule[2] if not kept[number]]
        return len(broken) <= rule[1]
    return not kept[rule[1]]


def kept_beyond(rules, kept, setting):
    """For each rule whether a setting keeps it, kept telling it of the first ones."""
    told = list(kept)
    for rule in rules[len(kept):]:
        told.append(rule_kept(rule, told, setting))
    return told


def rules_kept(rules, setting):
    """For each rule whether a setting keeps it."""
    return kept_beyond(rules, [], setting)


def keeps_all(rules, numbers, setting):
    """Whether a setting keeps all of these rules."""
    kept = rules_kept(rules, setting)
    return all([kept[number] for number in numbers])


def setting_right(n, rules, numbers, marks):
    """Whether a tuple of whole numbers is a setting of n names that keeps all of these rules."""
    if len(marks) != n or not all([mark in (0, 1) for mark in marks]):
        return False
    return keeps_all(rules, numbers, marks)


def or_sure(words, partial):
    """What an either-or is by a partial setting."""
    if any([word_right(word, partial) for word in words]):
        return "kept"
    if any([partial[abs(word) - 1] is None for word in words]):
        return "open"
    return "broken"


def few_sure(most, marks):
    """What a count is whose rules have these marks."""
    if marks.count("broken") > most:
        return "broken"
    if len(marks) - marks.count("kept") <= most:
        return "kept"
    return "open"


def not_sure(mark):
    """What a not is whose rule has this mark."""
    if mark == "broken":
        return "kept"
    if mark == "kept":
        return "broken"
    return "open"


def rule_sure(rule, sure, partial):
    """What a rule is by a partial setting, sure telling it of the rules ahead."""
    if rule[0] == "or":
        return or_sure(rule[1], partial)
    if rule[0] == "few":
        return few_sure(rule[1], [sure[number] for number in rule[2]])
    return not_sure(sure[rule[1]])


def rules_sure(rules, partial):
    """For each rule "kept", "broken" or "open", by a partial setting."""
    sure = []
    for rule in rules:
        sure.append(rule_sure(rule, sure, partial))
    return sure


def all_fillings(partial):
    """The rising list of all settings that fill a partial one."""
    fillings = [()]
    for mark in partial:
        marks = (0, 1) if mark is None else (mark,)
        fillings = [begun + (put,) for begun in fillings for put in marks]
    return fillings

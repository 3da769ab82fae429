"""The best setting that is nearest to an elder one."""

from wishdues.houses import greatest_rank
from wishdues.says import some_best


def elder_words(elder):
    """For each name in turn the word that is right of an elder setting."""
    return [at + 1 if mark == 1 else -at - 1 for at, mark in enumerate(elder)]


def with_elder(house, elder):
    """The house with wishes, of one rank more, for what an elder setting says of each name."""
    n, rules, musts, wishes = house
    rank = greatest_rank(wishes) + 1
    new_rules = [("or", (word,)) for word in elder_words(elder)]
    new_wishes = [(len(rules) + at, rank, 1) for at in range(len(new_rules))]
    return n, [*rules, *new_rules], musts, [*wishes, *new_wishes]


def many_otherwise(setting, elder):
    """Of how many names two settings say otherwise."""
    return len([mark for mark, other in zip(setting, elder) if mark != other])


def nearest_best(house, elder):
    """Of how few names a best setting says otherwise than an elder one, and the least that does."""
    return min([(many_otherwise(setting, elder), setting) for setting in some_best(house)])

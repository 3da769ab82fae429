"""Houses: names, rules, musts and wishes, and what settings lose in them."""

from wishdues.errors import BadMust, BadWish
from wishdues.rules import is_row, is_whole, keeps_all, made_rules, rules_kept
from wishdues.trees import kept_settings

MOST_WISHES = 12
MOST_RANK = 4
MOST_WEIGHT = 10 ** 30


def is_number(rules, thing):
    """Whether a thing is the number of one of these rules."""
    return is_whole(thing, 0, len(rules) - 1)


def made_musts(rules, row):
    """The rising tuple of the musts that a row makes."""
    if not is_row(row):
        raise BadMust(-1)
    musts = []
    for at, number in enumerate(row):
        if not is_number(rules, number) or number in musts:
            raise BadMust(at)
        musts.append(number)
    return tuple(sorted(musts))


def is_wish(rules, thing):
    """Whether a thing is a list or a tuple that makes a wish of one of these rules."""
    if not is_row(thing) or len(thing) != 3:
        return False
    number, rank, weight = thing
    return is_number(rules, number) and is_whole(rank, 1, MOST_RANK) and is_whole(weight, 1, MOST_WEIGHT)


def made_wishes(rules, row):
    """The list of wishes that a row makes."""
    if not is_row(row):
        raise BadWish(-1)
    for at, thing in enumerate(row):
        if at >= MOST_WISHES or not is_wish(rules, thing):
            raise BadWish(at)
    return [tuple(thing) for thing in row]


def made_house(n, rows, musts, wishes):
    """The house that these make."""
    rules = made_rules(n, rows)
    return n, rules, made_musts(rules, musts), made_wishes(rules, wishes)


def greatest_rank(wishes):
    """The greatest rank that a wish has, 0 without wishes."""
    return max([rank for number, rank, weight in wishes], default=0)


def wishes_losses(house, places):
    """What these wishes weigh together, rank by rank."""
    n, rules, musts, wishes = house
    losses = [0] * greatest_rank(wishes)
    for place in places:
        number, rank, weight = wishes[place]
        losses[rank - 1] += weight
    return tuple(losses)


def lost_wishes(house, setting):
    """The rising tuple of the wishes whose rules a setting breaks."""
    n, rules, musts, wishes = house
    kept = rules_kept(rules, setting)
    return tuple([place for place, wish in enumerate(wishes) if not kept[wish[0]]])


def house_losses(house, setting):
    """What a setting loses, rank by rank."""
    return wishes_losses(house, lost_wishes(house, setting))


def keeps_musts(house, setting):
    """Whether a setting keeps all musts."""
    n, rules, musts, wishes = house
    return keeps_all(rules, musts, setting)


def best_settings(house):
    """The rising list of the settings that keep the musts and lose least."""
    n, rules, musts, wishes = house
    settings = kept_settings(n, rules, musts)
    losses = [house_losses(house, setting) for setting in settings]
    least = min(losses, default=())
    return [setting for setting, lost in zip(settings, losses) if lost == least]

"""Tables, seats and rules for the tests, and what the document asks of answers, told in fractions.

Nothing here is taken from the package but the rules, which are handed to it.
"""

import itertools
import math
from fractions import Fraction

from seatweave.rules import Between, Down, Half

MOST_VOTES = 1000000000


def pair(fraction):
    return (fraction.numerator, fraction.denominator)


def some_rule(chance):
    """A rule and the part that [3] gives it."""
    kind = chance.randrange(6)
    if kind == 0:
        return Down(), Fraction(1)
    if kind == 1:
        return Half(), Fraction(1, 2)
    if kind == 2:
        return Between(1, 1000), Fraction(1, 1000)
    if kind == 3:
        return Between(1, 1), Fraction(1)
    q = chance.randint(1, 1000)
    p = chance.randint(1, q)
    return Between(p, q), Fraction(p, q)


def some_number(chance, style):
    if style == "same":
        return 6
    if style == "alike":
        return chance.choice((6, 6, 6, 12))
    if style == "small":
        return chance.randint(1, 5)
    if style == "great":
        return chance.randint(1, MOST_VOTES)
    if style == "wide":
        return int(10 ** (9 * chance.random()))
    return chance.choice((1, 2, 60, 720720, MOST_VOTES, MOST_VOTES - 1, chance.randint(1, MOST_VOTES)))


def some_row(chance, width, nought=0.25):
    style = chance.choice(("alike", "small", "great", "wide", "mixed"))
    return [0 if chance.random() < nought else some_number(chance, style) for j in range(width)]


def some_votes(chance, height, width, nought=0.25, styles=("same", "alike", "small", "great", "wide", "mixed")):
    style = chance.choice(styles)
    return [
        [0 if chance.random() < nought else some_number(chance, style) for j in range(width)] for i in range(height)
    ]


def some_split(chance, total, count):
    """So many seats, split at random; often some get none, or one gets most."""
    weights = [chance.random() ** chance.choice((1, 1, 6)) for k in range(count)]
    if count > 1 and chance.random() < 0.3:
        weights[chance.randrange(count)] = 0
    found = [0] * count
    for k in chance.choices(range(count), weights, k=total):
        found[k] += 1
    return found


def sums_by_votes(chance, votes, total):
    """Seats of places and parties for which there is some way to deal (without votes: none)."""
    cells = [(i, j) for i, row in enumerate(votes) for j, number in enumerate(row) if number > 0]
    places = [0] * len(votes)
    parties = [0] * len(votes[0])
    if cells:
        weights = [chance.random() ** chance.choice((1, 1, 6)) for cell in cells]
        for i, j in chance.choices(cells, weights, k=total):
            places[i] += 1
            parties[j] += 1
    return places, parties


def some_total(chance):
    return chance.choice((0, 1, 2, chance.randint(0, 12), chance.randint(0, 60), chance.randint(0, 300), 300))


def some_size(chance):
    return chance.choice((1, 2, 3, chance.randint(1, 12), chance.randint(1, 12), 12))


def some_table(chance, dealable=None):
    """Votes, seats of places, seats of parties."""
    votes = some_votes(chance, some_size(chance), some_size(chance), chance.choice((0, 0.25, 0.25, 0.25)))
    total = some_total(chance)
    if dealable is None:
        dealable = chance.random() < 0.6
    if dealable:
        return (votes,) + sums_by_votes(chance, votes, total)
    return votes, some_split(chance, total, len(votes)), some_split(chance, total, len(votes[0]))


def doubled_table(chance, most=6, total=None):
    """A table that can be dealt, with each party there twice, so that it often has twins."""
    half = some_votes(chance, min(most, some_size(chance)), chance.randint(1, min(most, 6)), chance.choice((0, 0.25)))
    places = [0] * len(half)
    dues = [0] * len(half[0])
    for j, column in enumerate(zip(*half)):
        known = [i for i, number in enumerate(column) if number]
        for seat in range(chance.randint(0, (some_total(chance) if total is None else total) // len(half[0]) // 2)):
            if known:
                dues[j] += 1
                places[chance.choice(known)] += 1
                places[chance.choice(known)] += 1
    order = list(range(2 * len(dues)))
    chance.shuffle(order)
    return [[(row + row)[j] for j in order] for row in half], places, [(dues + dues)[j] for j in order]


def column_sums(table):
    return [sum(cells) for cells in zip(*table)]


def is_ratio(value):
    return (
        type(value) is tuple and len(value) == 2 and type(value[0]) is int and type(value[1]) is int
        and value[0] >= 0 and value[1] > 0 and math.gcd(value[0], value[1]) == 1
    )


def is_ratio_above_nought(value):
    return is_ratio(value) and value[0] > 0


def goes(part, share, n):
    """[3]: whether a share is rounded to n by the rule of that part."""
    return n >= 0 and (n == 0 or share >= part + n - 1) and share <= part + n


def share_of(votes, rows, columns, i, j):
    return votes[i][j] * Fraction(*rows[i]) * Fraction(*columns[j])


def is_dealing(votes, places, parties, part, seats, rows, columns):
    """[8] and [4]."""
    if [sum(row) for row in seats] != places or column_sums(seats) != parties:
        return False
    if not all(is_ratio_above_nought(value) for value in rows + columns):
        return False
    for i, row in enumerate(votes):
        for j, number in enumerate(row):
            if number == 0 and seats[i][j] != 0:
                return False
            if not goes(part, share_of(votes, rows, columns, i, j), seats[i][j]):
                return False
    return True


def is_bar(votes, places, parties, rows, columns):
    """[9]."""
    for told, count in ((rows, len(places)), (columns, len(parties))):
        if told != sorted(set(told)) or not set(told) <= set(range(count)):
            return False
    if any(votes[i][j] for i in range(len(places)) if i not in rows for j in columns):
        return False
    return sum(parties[j] for j in columns) > sum(places[i] for i in rows)


def has_bar(votes, places, parties):
    """Whether there is a Bar at all, by trying all parties with the places that have votes of them."""
    for count in range(len(parties) + 1):
        for columns in itertools.combinations(range(len(parties)), count):
            rows = [i for i, row in enumerate(votes) if any(row[j] for j in columns)]
            if is_bar(votes, places, parties, rows, list(columns)):
                return True
    return False


def rows_of(total, bounds):
    """All rows of whole numbers from 0 to the bounds with that sum."""
    if not bounds:
        return [[]] if total == 0 else []
    found = []
    for first in range(min(total, bounds[0]) + 1):
        found += [[first] + rest for rest in rows_of(total - first, bounds[1:])]
    return found


def seat_tables(votes, places, parties):
    """All tables of seats with these sums, none without votes."""
    if not votes:
        return [[]] if not any(parties) else []
    found = []
    for row in rows_of(places[0], [due if number else 0 for due, number in zip(parties, votes[0])]):
        left = [due - seats for due, seats in zip(parties, row)]
        found += [[row] + rest for rest in seat_tables(votes[1:], places[1:], left)]
    return found


def cost_of(votes, seats, part):
    """The product of what all seats cost: least for the dealings, and for them alone."""
    cost = Fraction(1)
    for i, row in enumerate(seats):
        for j, count in enumerate(row):
            for n in range(1, count + 1):
                cost *= (part + n - 1) / votes[i][j]
    return cost


def all_dealings(votes, places, parties, part):
    tables = seat_tables(votes, places, parties)
    costs = [cost_of(votes, seats, part) for seats in tables]
    return [seats for seats, cost in zip(tables, costs) if cost == min(costs)]

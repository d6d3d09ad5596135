"""Seats dealt by one row of votes.

dealt(votes, seats, rule) tells a list of seats and the ratio by which the votes, each
times it, are rounded to them. NoVotes: there are seats to deal, and no votes.
"""

from seatweave.errors import NoVotes
from seatweave.ratios import below, over, ratio


# The ratio that lifts the votes just to mark n: what the n-th seat costs there.
def price(number, n, rule):
    return over(rule.mark(n), (number, 1))


def next_price(number, seats, rule):
    # Without votes no ratio lifts to any mark.
    return price(number, seats + 1, rule) if number > 0 else None


def cheapest(prices):
    found = None
    for k in range(len(prices)):
        if prices[k] is not None:
            # Only a lower price goes ahead of an earlier place, so that ties go to the earlier.
            if found is None or below(prices[k], prices[found]):
                found = k
    return found


def dealt(votes, seats, rule):
    if seats > 0 and sum(votes) == 0:
        raise NoVotes("there are seats to deal, and no votes")
    told = [0 for number in votes]
    prices = [next_price(number, 0, rule) for number in votes]
    first = cheapest(prices)
    # Up to the first price no seat is dealt; from the last one paid on, all of them are.
    paid = ratio(1, 1) if first is None else prices[first]
    for seat in range(seats):
        k = cheapest(prices)
        paid = prices[k]
        told[k] += 1
        prices[k] = next_price(votes[k], told[k], rule)
    return (told, paid)

"""The ways on which seats of a table can be moved, and the cheapest paths along them.

Each place and each party is a node, a whole number: the places first, the parties behind
them. From a place a way leads to each party that has votes there: one seat more in that
cell. From a party a way leads to each place where it has seats: one seat less in that cell.
So seats are moved along a path, and sums of seats change at its two ends alone.

A way costs a ratio: the price of the seat that is put in, or 1 by the price of the seat
that is taken out. A path costs the product of its ways.
"""

from seatweave.ratios import below, over
from seatweave.single import price


# The cell where a place and a party meet, whichever of the two nodes comes first.
def cell_between(one, other, height):
    return (one, other - height) if one < height else (other, one - height)


class Net:
    def __init__(self, votes, seats, width, rule):
        self.votes = votes
        self.rule = rule
        self.height = len(votes)
        self.seats = [list(row) for row in seats]
        self.ways = [{} for node in range(self.height + width)]
        for i in range(self.height):
            for j in range(width):
                self.lay(i, j)

    # The ways between a place and a party, by the seats that their cell has now.
    def lay(self, i, j):
        number = self.votes[i][j]
        seats = self.seats[i][j]
        party = self.height + j
        if number > 0:
            self.ways[i][party] = price(number, seats + 1, self.rule)
        if seats > 0:
            self.ways[party][i] = over((1, 1), price(number, seats, self.rule))
        else:
            self.ways[party].pop(i, None)

    def move(self, path):
        for k in range(len(path) - 1):
            cell = cell_between(path[k], path[k + 1], self.height)
            self.seats[cell[0]][cell[1]] += 1 if path[k] < self.height else -1
            self.lay(cell[0], cell[1])


# What it costs at least to come from one of the starts to each node, None where no path
# leads. It is found only where no path back to its own start costs less than 1: round such
# a path the costs would fall for ever.
class Reach:
    def __init__(self, starts, ways):
        self.costs = [None for node in ways]
        self.ahead = [None for node in ways]
        for node in starts:
            self.costs[node] = (1, 1)
        waiting = list(starts)
        while len(waiting) > 0:
            node = waiting.pop(0)
            fallen = self.go_on(node, ways[node])
            waiting.extend([other for other in fallen if other not in waiting])

    # The nodes to which it costs less by way of this one than was known so far.
    def go_on(self, node, ways):
        so_far = self.costs[node]
        fallen = []
        for other in ways:
            # Left as it is, not in least numbers: to find those takes longer than all the rest.
            cost = (so_far[0] * ways[other][0], so_far[1] * ways[other][1])
            if self.costs[other] is None or below(cost, self.costs[other]):
                self.costs[other] = cost
                self.ahead[other] = node
                fallen.append(other)
        return fallen

    def path_to(self, node):
        path = [node]
        while self.ahead[path[0]] is not None:
            path.insert(0, self.ahead[path[0]])
        return path

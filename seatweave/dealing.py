"""Seats dealt to places and to parties at once.

woven(votes, places, parties, rule) tells an Answer: a Dealing, or a Bar where there is no
dealing. Of each, shown(votes, places, parties, rule) tells whether it is one indeed.
twin(votes, dealing, rule) tells another dealing with the same ratios and the same sums, or
None where there is no other.
"""

from seatweave.net import Net, Reach
from seatweave.ratios import ratio


def column(table, j):
    return [row[j] for row in table]


def is_ratio_above_nought(pair):
    return pair[0] > 0 and pair[1] > 0 and pair == ratio(pair[0], pair[1])


def is_rising_below(numbers, bound):
    for k in range(len(numbers)):
        least = 0 if k == 0 else numbers[k - 1] + 1
        if not least <= numbers[k] < bound:
            return False
    return True


class Answer:
    # An answer of neither kind below tells nothing that could be right.
    def shown(self, votes, places, parties, rule):
        return False


class Dealing(Answer):
    def __init__(self, seats, rows, columns):
        self.seats = [list(row) for row in seats]
        self.rows = list(rows)
        self.columns = list(columns)

    def shown(self, votes, places, parties, rule):
        if not all([is_ratio_above_nought(pair) for pair in self.rows + self.columns]):
            return False
        if not all([sum(self.seats[i]) == places[i] for i in range(len(places))]):
            return False
        if not all([sum(column(self.seats, j)) == parties[j] for j in range(len(parties))]):
            return False
        return all([self.row_fits(votes[i], i, rule) for i in range(len(places))])

    def row_fits(self, votes, i, rule):
        return all([self.cell_fits(votes[j], i, j, rule) for j in range(len(votes))])

    def cell_fits(self, number, i, j, rule):
        one = self.rows[i]
        other = self.columns[j]
        # Left as it is, not in least numbers: it is only compared, and to find those takes long.
        share = (number * one[0] * other[0], one[1] * other[1])
        return self.seats[i][j] >= 0 and rule.fits(share, self.seats[i][j])


class Bar(Answer):
    def __init__(self, rows, columns):
        self.rows = list(rows)
        self.columns = list(columns)

    def shown(self, votes, places, parties, rule):
        if not is_rising_below(self.rows, len(places)) or not is_rising_below(self.columns, len(parties)):
            return False
        for i in range(len(places)):
            if i not in self.rows and any([votes[i][j] > 0 for j in self.columns]):
                return False
        return sum([parties[j] for j in self.columns]) > sum([places[i] for i in self.rows])


# The parties that are due more seats and can be reached.
def ends_of(reach, left, height):
    return [node for node in range(height, len(left)) if left[node] > 0 and reach.costs[node] is not None]


# The places reached have votes of none but the parties reached, and these have all they are
# due, from these places alone; yet one of these places has a seat left. As both sides have one
# sum, the parties that were missed are due more than the places that were missed have.
def bar_of(reach, height):
    missed = [node for node in range(len(reach.costs)) if reach.costs[node] is None]
    return Bar([node for node in missed if node < height], [node - height for node in missed if node >= height])


# A party can be reached at no more than its place's cost times the price of the cell's next
# seat, a place at no more than its party's cost by the price of the cell's last seat. So the
# party's cost by the place's lies between the two prices: as a ratio it gives just these seats.
def dealing_of(net):
    costs = Reach(list(range(len(net.ways))), net.ways).costs
    rows = [ratio(cost[1], cost[0]) for cost in costs[:net.height]]
    columns = [ratio(cost[0], cost[1]) for cost in costs[net.height:]]
    return Dealing(net.seats, rows, columns)


# Each seat goes along a path that costs the least for where it ends: so never can seats be moved
# round, from a node back to itself, at a cost below 1, and ratios for the seats can be told.
def woven(votes, places, parties, rule):
    height = len(places)
    net = Net(votes, [[0 for due in parties] for row in votes], len(parties), rule)
    left = places + parties
    while sum(left) > 0:
        reach = Reach([i for i in range(height) if left[i] > 0], net.ways)
        ends = ends_of(reach, left, height)
        if len(ends) == 0:
            return bar_of(reach, height)
        path = reach.path_to(ends[0])
        net.move(path)
        left[path[0]] -= 1
        left[path[-1]] -= 1
    return dealing_of(net)


# The ways for seats that stand just at a mark: by the same ratios such a seat may be there or not.
def free_ways(net, dealing):
    levels = [(pair[1], pair[0]) for pair in dealing.rows] + dealing.columns
    return [free_from(node, net.ways[node], levels) for node in range(len(levels))]


def free_from(node, ways, levels):
    return [other for other in ways if costs_just(ways[other], levels[node], levels[other])]


def costs_just(cost, start, end):
    return start[0] * cost[0] * end[1] == end[0] * start[1] * cost[1]


# A path back to its own start, or None. Nodes from which each path comes to an end are left
# out first, so that from the others one can always go on, and must come back at last.
def ring(ways):
    lasting = [True for node in ways]
    for step in range(len(ways)):
        lasting = [any([lasting[other] for other in others]) for others in ways]
    if not any(lasting):
        return None
    path = [lasting.index(True)]
    while path[-1] not in path[:-1]:
        path.append([other for other in ways[path[-1]] if lasting[other]][0])
    return path[path.index(path[-1]):]


def twin(votes, dealing, rule):
    net = Net(votes, dealing.seats, len(dealing.columns), rule)
    path = ring(free_ways(net, dealing))
    if path is None:
        return None
    net.move(path)
    return Dealing(net.seats, dealing.rows, dealing.columns)

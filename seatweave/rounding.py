"""Tables of w-ths rounded to whole numbers, with all their sums.

rounded(table, w) tells a table in which each cell, each row's sum, each column's and the
sum of all are those of the w-ths, rounded down or up.
"""

from seatweave.net import cell_between


# What is over the whole numbers, with a row and a column more that fill up each sum to a whole
# number. All sums then stay, so that each sum of the table is rounded by what fills it up.
def filled_parts(table, w):
    parts = [filled([number % w for number in row], w) for row in table]
    width = max([len(row) for row in parts], default=0)
    return parts + [[-sum([row[j] for row in parts]) % w for j in range(width)]]


def filled(row, w):
    return row + [-sum(row) % w]


# Rows and columns are nodes, the rows first. The next node is one that meets this one in a part
# that is still to be rounded, but not the one from which the path came.
def next_node(parts, w, node, past):
    height = len(parts)
    others = list(range(height, height + len(parts[0]))) if node < height else list(range(height))
    for other in others:
        cell = cell_between(node, other, height)
        if other != past and 0 < parts[cell[0]][cell[1]] < w:
            return other
    return None


# A path back to its own start through parts that are still to be rounded; empty if there are none.
# One can always go on: where one such part stands in a whole sum, there is another.
def ring(parts, w):
    starts = [i for i in range(len(parts)) if next_node(parts, w, i, None) is not None]
    if len(starts) == 0:
        return []
    path = [None, starts[0]]
    while path[-1] not in path[:-1]:
        path.append(next_node(parts, w, path[-1], path[-2]))
    return path[path.index(path[-1]):]


# By turns more and less, so that all sums stay, and so much that one part at least is rounded.
def shift(parts, w, path):
    cells = [cell_between(path[k], path[k + 1], len(parts)) for k in range(len(path) - 1)]
    up = [w - parts[cell[0]][cell[1]] for cell in cells[::2]]
    down = [parts[cell[0]][cell[1]] for cell in cells[1::2]]
    step = min(up + down)
    for k in range(len(cells)):
        parts[cells[k][0]][cells[k][1]] += step if k % 2 == 0 else -step


def rounded(table, w):
    parts = filled_parts(table, w)
    path = ring(parts, w)
    while len(path) > 0:
        shift(parts, w, path)
        path = ring(parts, w)
    return [[table[i][j] // w + parts[i][j] // w for j in range(len(table[i]))] for i in range(len(table))]

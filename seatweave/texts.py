"""Tables told by texts.

read(text) tells a Table, written(table) its text. BadLine: a line is not as it should be.
NoTable: the lines are good, but there is no party or no place, or the sums of seats are
unlike or too great.
"""

from seatweave.errors import BadLine, NoTable

LETTERS = "abcdefghijklmnopqrstuvwxyz"
FIGURES = "0123456789"
LONGEST_NAME = 8
MOST_NAMES = 12
MOST_SEATS = 300
MOST_VOTES = 1000000000


class Table:
    def __init__(self, places, parties, rows, columns, votes):
        self.places = places
        self.parties = parties
        self.rows = rows
        self.columns = columns
        self.votes = votes


def words_of(line):
    # Only the blank parts words: split() by itself would take tabs as well.
    return [word for word in line.split(" ") if word != ""]


def is_of(word, signs):
    return word != "" and all([sign in signs for sign in word])


def number_of(word, most, at):
    if not is_of(word, FIGURES) or (word[0] == "0" and word != "0"):
        raise BadLine(at)
    # Too long is too great; and Python makes no number of some thousand figures.
    if len(word) > len(str(most)) or int(word) > most:
        raise BadLine(at)
    return int(word)


# A name with its seats is put behind those that were there.
def take_name(word, names, seats, at):
    parts = word.partition("(")
    name = parts[0]
    if not is_of(name, LETTERS) or len(name) > LONGEST_NAME or not parts[2].endswith(")"):
        raise BadLine(at)
    if name in names or len(names) == MOST_NAMES:
        raise BadLine(at)
    names.append(name)
    seats.append(number_of(parts[2][:-1], MOST_SEATS, at))


def take_place(words, table, at):
    take_name(words[0], table.places, table.rows, at)
    if len(words) - 1 != len(table.parties):
        raise BadLine(at)
    table.votes.append([number_of(word, MOST_VOTES, at) for word in words[1:]])


def take_line(words, table, at):
    if len(table.parties) > 0:
        take_place(words, table, at)
    else:
        for word in words:
            take_name(word, table.parties, table.columns, at)


def read(text):
    table = Table([], [], [], [], [])
    lines = text.split("\n")
    for at in range(len(lines)):
        words = words_of(lines[at])
        if len(words) > 0:
            take_line(words, table, at)
    if len(table.places) == 0:
        raise NoTable("there is no party or no place")
    if sum(table.rows) != sum(table.columns) or sum(table.rows) > MOST_SEATS:
        raise NoTable("the sums of seats are unlike or too great")
    return table


def labelled(name, seats):
    return f"{name}({seats})"


def written(table):
    lines = [[labelled(table.parties[j], table.columns[j]) for j in range(len(table.parties))]]
    for i in range(len(table.places)):
        lines.append([labelled(table.places[i], table.rows[i])] + [str(number) for number in table.votes[i]])
    return "\n".join([" ".join(words) for words in lines])

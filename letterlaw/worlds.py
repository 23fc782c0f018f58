"""Worlds: a few rooms, and for each letter the room to which it leads from each of them."""

from letterlaw.errors import NoWorld, TooMany
from letterlaw.words import letters_of

MOST_ROOMS = 8


def table_of(letters, table):
    if not 1 <= len(table) <= MOST_ROOMS:
        raise NoWorld("a world has one to eight rooms")
    for row in table:
        if len(row) != len(letters):
            raise NoWorld("a row has one room for each letter")
        for room in row:
            # An index alone would count a number below 0 from the end.
            if not 0 <= room < len(table):
                raise NoWorld("a letter leads to a room of the world")
    return [list(row) for row in table]


def crossed_table(one, other):
    table = []
    for row in one:
        for beside in other:
            table.append([i * len(other) + j for i, j in zip(row, beside)])
    return table


def rooms_met(table):
    # The list grows behind the room that is looked at, so it is not walked by a for.
    met = [0]
    at = 0
    while at < len(met):
        row = table[met[at]]
        for room in row:
            if room not in met:
                met.append(room)
        at = at + 1
    return met


def numbered_anew(row, met):
    return [met.index(room) for room in row]


class World:
    def __init__(self, letters, table):
        self.letters = letters_of(letters)
        self.table = table_of(letters, table)

    def rooms(self):
        return len(self.table)

    def table_told(self):
        return [list(row) for row in self.table]

    def led(self, room, word):
        for letter in word:
            room = self.table[room][self.letters.index(letter)]
        return room

    def holds(self, pact):
        return self.parted(pact[0], pact[1]) is None

    def broken(self, pacts):
        for number, pact in enumerate(pacts):
            room = self.parted(pact[0], pact[1])
            if room is not None:
                return (number, room)
        return None

    def parted(self, one, other):
        for room in range(self.rooms()):
            if self.led(room, one) != self.led(room, other):
                return room
        return None

    def crossed(self, other):
        if other.letters != self.letters:
            raise NoWorld("both worlds have the same letters in the same order")
        if self.rooms() * other.rooms() > MOST_ROOMS:
            raise TooMany("a world has at most eight rooms")
        return World(self.letters, crossed_table(self.table, other.table_told()))

    def reached(self):
        met = rooms_met(self.table)
        return World(self.letters, [numbered_anew(self.table[room], met) for room in met])

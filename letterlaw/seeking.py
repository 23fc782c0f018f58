"""Small worlds looked for, table by table, that tell two words apart by pacts."""

from letterlaw.errors import TooMany
from letterlaw.worlds import World

MOST_TABLES = 1000


def table_count(letters, rooms):
    count = 1
    for cell in range(rooms * len(letters)):
        count = count * rooms
    return count


def tables_within(letters, rooms):
    return table_count(letters, rooms) <= MOST_TABLES


def table_at(letters, rooms, number):
    # The table's numbers are the figures of its own number, the first one counting most, as it decides first.
    cells = []
    for cell in range(rooms * len(letters)):
        cells.append(number % rooms)
        number = number // rooms
    cells.reverse()
    return [cells[start:start + len(letters)] for start in range(0, len(cells), len(letters))]


def tells_apart(world, pacts, one, other):
    if world.led(0, one) == world.led(0, other):
        return False
    return world.broken(pacts) is None


def world_apart(letters, pacts, one, other, most):
    if not tables_within(letters, most):
        raise TooMany("there would be more than 1,000 tables")
    for rooms in range(1, most + 1):
        for number in range(table_count(letters, rooms)):
            table = table_at(letters, rooms, number)
            if tells_apart(World(letters, table), pacts, one, other):
                return table
    return None

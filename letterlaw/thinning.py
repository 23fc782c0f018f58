"""Entries, which are pairs of words with their chains of the told pacts, and lists of them thinned."""

from letterlaw.chains import back, moved
from letterlaw.errors import TooFar
from letterlaw.systems import System, gone

MOST_USES = 40
MOST_STEPS = 240
MOST_SIDE = 60
MOST_PASSES = 20


def by_pacts(entries, steps):
    chain = []
    for step in steps:
        own = entries[step[0]][2]
        chain.extend(moved(own if step[2] else back(own), step[1]))
    return chain


def pairs_of(entries):
    return [(entry[0], entry[1]) for entry in entries]


def system_by(order, entries):
    return System(order, pairs_of(entries))


def as_rule(order, entry):
    if order.before(entry[1], entry[0]):
        return entry
    return (entry[1], entry[0], back(entry[2]))


def in_order(order, entries):
    unlike = [as_rule(order, entry) for entry in entries if entry[0] != entry[1]]
    return sorted(unlike, key=lambda entry: (order.rank(entry[0]), order.rank(entry[1])))


def brought_down(entries, entry):
    rules = pairs_of(entries)
    one = gone(rules, entry[0], MOST_USES)
    other = gone(rules, entry[1], MOST_USES)
    if one[1] == other[1]:
        return None
    steps = by_pacts(entries, back(one[0])) + entry[2] + by_pacts(entries, other[0])
    return (one[1], other[1], steps)


def refuse_beyond(entry):
    if len(entry[2]) > MOST_STEPS:
        raise TooFar("a chain has more than 240 steps")
    if max(len(entry[0]), len(entry[1])) > MOST_SIDE:
        raise TooFar("a side has more than 60 letters")


def built_anew(order, entries):
    built = []
    for entry in entries:
        lower = brought_down(built, entry)
        if lower is not None:
            refuse_beyond(lower)
            built.append(as_rule(order, lower))
    return built


def thinned(order, entries):
    for turn in range(MOST_PASSES):
        lined_up = in_order(order, entries)
        entries = built_anew(order, lined_up)
        if pairs_of(entries) == pairs_of(lined_up):
            return entries
    raise TooFar("the twentieth pass has not led to the end")

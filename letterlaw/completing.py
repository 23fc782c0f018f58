"""Pacts completed: rules put in, round by round, until all overlaps meet."""

from letterlaw.errors import TooFar
from letterlaw.overlaps import peak, unmet
from letterlaw.thinning import by_pacts, pairs_of, system_by, thinned

MOST_USES = 40
MOST_ENTRIES = 12
MOST_SIDE = 10
MOST_PEAKS = 8


def first_entries(pacts):
    return [(pact[0], pact[1], [(number, 0, True)]) for number, pact in enumerate(pacts)]


def is_beyond(entries):
    if len(entries) > MOST_ENTRIES:
        return True
    return any([max(len(entry[0]), len(entry[1])) > MOST_SIDE for entry in entries])


def thinned_within(order, entries):
    # None where completing has to stop.
    try:
        slim = thinned(order, entries)
    except TooFar:
        return None
    return None if is_beyond(slim) else slim


def unmet_within(order, entries):
    # None where completing has to stop.
    try:
        return unmet(system_by(order, entries), MOST_USES)
    except TooFar:
        return None


def entry_of(entries, overlap):
    sides = peak(pairs_of(entries), overlap)
    steps = by_pacts(entries, [(overlap[0], 0, False), (overlap[1], overlap[2], True)])
    return (sides[1], sides[2], steps)


def completed(order, pacts, rounds):
    kept = []
    fresh = first_entries(pacts)
    # Once more than there are rounds, as the pacts are looked at ahead of the first round.
    for turn in range(rounds + 1):
        slim = thinned_within(order, fresh)
        if slim is None:
            return (False, kept)
        kept = slim
        lacking = unmet_within(order, kept)
        if lacking is None:
            return (False, kept)
        if len(lacking) == 0:
            return (True, kept)
        fresh = kept + [entry_of(kept, overlap) for overlap in lacking[:MOST_PEAKS]]
    return (False, kept)

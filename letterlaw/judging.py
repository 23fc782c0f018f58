"""Two words judged by pacts as alike, apart or open, and the papers of such an answer looked at."""

from letterlaw.chains import back, walked
from letterlaw.completing import completed
from letterlaw.errors import NoUse, NoWorld, TooFar, TooMany
from letterlaw.overlaps import is_met, overlaps
from letterlaw.seeking import tables_within, tells_apart, world_apart
from letterlaw.systems import gone
from letterlaw.thinning import by_pacts, pairs_of, system_by
from letterlaw.worlds import World

MOST_USES = 40
MOST_STEPS = 2000
MOST_LOOKED_AT = 4000


def gone_within(entries, word):
    # None where the road has more uses.
    try:
        return gone(pairs_of(entries), word, MOST_USES)
    except TooFar:
        return None


def judged_by_roads(whole, kept, one, other):
    # None where the roads alone don't tell.
    ahead = gone_within(kept, one)
    behind = gone_within(kept, other)
    if ahead is None or behind is None:
        return None
    if ahead[1] != behind[1]:
        return ("forms", kept, ahead[1], behind[1]) if whole else None
    steps = by_pacts(kept, ahead[0] + back(behind[0]))
    return ("alike", steps) if len(steps) <= MOST_STEPS else None


def judged_by_worlds(letters, pacts, one, other, most):
    table = world_apart(letters, pacts, one, other, most)
    return ("open",) if table is None else ("world", table)


def judged(order, pacts, one, other, rounds, most):
    # Ahead of all else, also where no world is looked for in the end.
    if not tables_within(order.letters, most):
        raise TooMany("there would be more than 1,000 tables")
    outcome = completed(order, pacts, rounds)
    answer = judged_by_roads(outcome[0], outcome[1], one, other)
    if answer is None:
        return judged_by_worlds(order.letters, pacts, one, other, most)
    return answer


def leads(pacts, one, other, steps):
    try:
        return walked(pacts, one, steps)[-1] == other
    except NoUse:
        return False


def entry_stands(order, pacts, entry):
    return order.before(entry[1], entry[0]) and leads(pacts, entry[0], entry[1], entry[2])


def all_meet(rules):
    forms = {}
    for overlap in overlaps(rules):
        if not is_met(rules, overlap, MOST_LOOKED_AT, forms):
            return False
    return True


def forms_agree(system, pacts, one, other, answer):
    if (system.shortest(one), system.shortest(other)) != (answer[2], answer[3]):
        return False
    for pact in pacts:
        if system.shortest(pact[0]) != system.shortest(pact[1]):
            return False
    return answer[2] != answer[3] and all_meet(system.rules_told())


def forms_stand(order, pacts, one, other, answer):
    for entry in answer[1]:
        if not entry_stands(order, pacts, entry):
            return False
    try:
        return forms_agree(system_by(order, answer[1]), pacts, one, other, answer)
    except TooFar:
        return False


def world_stands(letters, pacts, one, other, table):
    try:
        return tells_apart(World(letters, table), pacts, one, other)
    except NoWorld:
        return False


def stands(order, pacts, one, other, answer):
    if answer[0] == "alike":
        return leads(pacts, one, other, answer[1])
    if answer[0] == "forms":
        return forms_stand(order, pacts, one, other, answer)
    if answer[0] == "world":
        return world_stands(order.letters, pacts, one, other, answer[1])
    return True

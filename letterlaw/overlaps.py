"""Overlaps of rules, their peaks, and whether they meet."""

from letterlaw.systems import gone
from letterlaw.words import put


def agree(one, other, place):
    # Each is cut to where both lie, as either may be the one that ends first.
    return one[place:place + len(other)] == other[:len(one) - place]


def overlaps(rules):
    found = []
    for i, one in enumerate(rules):
        for j, other in enumerate(rules):
            for place in range(1 if i == j else 0, len(one[0])):
                if agree(one[0], other[0], place):
                    found.append((i, j, place))
    return found


def peak(rules, overlap):
    one = rules[overlap[0]]
    other = rules[overlap[1]]
    place = overlap[2]
    word = one[0] + other[0][len(one[0]) - place:]
    return (word, put(word, 0, one[0], one[1]), put(word, place, other[0], other[1]))


def form_of(rules, word, most, forms):
    # Many peaks come down to the same few words: forms keeps what each of them led to.
    if word not in forms:
        forms[word] = gone(rules, word, most)[1]
    return forms[word]


def is_met(rules, overlap, most, forms):
    sides = peak(rules, overlap)
    one = form_of(rules, sides[1], most, forms)
    other = form_of(rules, sides[2], most, forms)
    return one == other


def meets(system, overlap, most=4000):
    return is_met(system.rules_told(), overlap, most, {})


def unmet(system, most=4000):
    rules = system.rules_told()
    forms = {}
    return [overlap for overlap in overlaps(rules) if not is_met(rules, overlap, most, forms)]

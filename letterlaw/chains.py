"""Uses of pacts, and chains of such uses."""

from letterlaw.errors import NoUse
from letterlaw.words import put


def used(pacts, word, step):
    # An index alone would count a number below 0 from the end.
    if not 0 <= step[0] < len(pacts):
        raise NoUse(0)
    pact = pacts[step[0]]
    if step[2]:
        return put(word, step[1], pact[0], pact[1])
    return put(word, step[1], pact[1], pact[0])


def walked(pacts, word, steps):
    words = [word]
    for at, step in enumerate(steps):
        try:
            words.append(used(pacts, words[-1], step))
        except NoUse:
            raise NoUse(at) from None
    return words


def back(steps):
    return [(step[0], step[1], not step[2]) for step in reversed(steps)]


def moved(steps, size):
    return [(step[0], step[1] + size, step[2]) for step in steps]


class Chain:
    def __init__(self, pacts, word, steps):
        self.pacts = list(pacts)
        self.steps = list(steps)
        self.words = walked(pacts, word, steps)

    def first(self):
        return self.words[0]

    def last(self):
        return self.words[-1]

    def words_on(self):
        return list(self.words)

    def steps_told(self):
        return list(self.steps)

    def turned(self):
        return Chain(self.pacts, self.last(), back(self.steps))

    def then(self, other):
        if other.first() != self.last():
            raise NoUse(len(self.steps))
        return Chain(self.pacts, self.first(), self.steps + other.steps_told())

    def within(self, ahead, behind):
        return Chain(self.pacts, ahead + self.first() + behind, moved(self.steps, len(ahead)))

    def straight(self):
        leaving = {}
        for at in range(len(self.steps)):
            leaving[self.words[at]] = at
        steps = []
        word = self.first()
        # It ends, as each step that is taken stands behind the one ahead in the whole chain.
        while word != self.last():
            at = leaving[word]
            steps.append(self.steps[at])
            word = self.words[at + 1]
        return Chain(self.pacts, self.first(), steps)

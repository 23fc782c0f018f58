"""The three orders of words: by length, from the right, by weights."""

from letterlaw.errors import NoOrder
from letterlaw.words import letters_of

MOST_WEIGHT = 1000000


class Order:
    # The order by length: the others stand under it, as all but the weight and the look of a word is the same.
    def __init__(self, letters):
        self.letters = letters_of(letters)

    def weight(self, word):
        return len(word)

    def seen(self, word):
        return word

    def rank(self, word):
        # The letters' own order counts, not that of the alphabet.
        return (self.weight(word), [self.letters.index(letter) for letter in self.seen(word)])

    def before(self, one, other):
        return self.rank(one) < self.rank(other)

    def rule_of(self, one, other):
        if self.before(other, one):
            return (one, other)
        if self.before(one, other):
            return (other, one)
        return None

    def ranked(self, words):
        return sorted(words, key=self.rank)


class FromRight(Order):
    def seen(self, word):
        return word[::-1]


class ByWeights(Order):
    def __init__(self, letters, weights):
        Order.__init__(self, letters)
        if len(weights) != len(letters):
            raise NoOrder("there is one weight for each letter")
        for weight in weights:
            if not 1 <= weight <= MOST_WEIGHT:
                raise NoOrder("a weight is from 1 to 1,000,000")
        self.weights = tuple(weights)

    def weight(self, word):
        return sum([word.count(letter) * weight for letter, weight in zip(self.letters, self.weights)])

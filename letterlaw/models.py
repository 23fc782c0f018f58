"""The shortest words of a system, and the world that has them as rooms."""

from letterlaw.errors import TooMany
from letterlaw.worlds import World


def one_letter_longer(system, words):
    # A shortest word begins with a shortest one, so none is missed.
    longer = []
    for word in words:
        for letter in system.order.letters:
            if system.is_shortest(word + letter):
                longer.append(word + letter)
    return longer


def shortest_words(system, most=8):
    words = []
    # The empty word is always shortest, as no left side is empty.
    level = [""]
    while len(level) > 0:
        words = words + level
        if len(words) > most:
            raise TooMany("there are more shortest words")
        level = one_letter_longer(system, level)
    return words


def row_of(system, words, word):
    return [words.index(system.shortest(word + letter)) for letter in system.order.letters]


def world_of(system):
    words = shortest_words(system)
    return World(system.order.letters, [row_of(system, words, word) for word in words])

"""Words, pacts, steps and entries as texts, and such texts read again."""

from letterlaw.errors import NoPact, NoStep, NoWord
from letterlaw.words import word_of

EMPTY = "."
BETWEEN = " = "
FORTH = ">"
BACK = "<"
FIGURES = "0123456789"
MOST_FIGURES = 4


def shown_word(word):
    return EMPTY if word == "" else word


def shown_pact(pact):
    return shown_word(pact[0]) + BETWEEN + shown_word(pact[1])


def shown_step(step):
    sign = FORTH if step[2] else BACK
    return str(step[0]) + sign + str(step[1])


def shown_steps(steps):
    if len(steps) == 0:
        return EMPTY
    return " ".join([shown_step(step) for step in steps])


def shown_entry(entry):
    return shown_pact((entry[0], entry[1])) + " by " + shown_steps(entry[2])


def read_word(letters, text, most=60):
    if text == EMPTY:
        return ""
    if text == "":
        raise NoWord(0)
    return word_of(letters, text, most)


def read_pact(letters, text, most=60):
    end = text.find(BETWEEN)
    if end < 0:
        raise NoPact("a pact has ' = ' between its words")
    one = read_word(letters, text[:end], most)
    other = read_word(letters, text[end + len(BETWEEN):], most)
    return (one, other)


def is_number(text, most):
    if not 1 <= len(text) <= most:
        return False
    if text[0] == "0" and text != "0":
        return False
    # isdigit would take figures beyond 0 to 9, too.
    return all([sign in FIGURES for sign in text])


def read_step(text):
    sign = FORTH if FORTH in text else BACK
    parts = text.split(sign)
    if len(parts) != 2 or not all([is_number(part, MOST_FIGURES) for part in parts]):
        raise NoStep("a step is a number, > or <, and a place")
    return (int(parts[0]), int(parts[1]), sign == FORTH)


def read_steps(text):
    if text == EMPTY:
        return []
    return [read_step(piece) for piece in text.split(" ")]

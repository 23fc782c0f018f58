"""Letters, words of them, and parts of words."""

from letterlaw.errors import NoLetters, NoUse, NoWord

MOST_LETTERS = 6


def is_small_letter(sign):
    # islower would take letters beyond a to z, too.
    return "a" <= sign <= "z"


def letters_of(text):
    if not 1 <= len(text) <= MOST_LETTERS:
        raise NoLetters("there are one to six letters")
    for sign in text:
        if not is_small_letter(sign):
            raise NoLetters("a letter is one of a to z")
        if text.count(sign) > 1:
            raise NoLetters("no letter stands twice")
    return text


def word_of(letters, text, most=60):
    for place, sign in enumerate(text):
        if place >= most or sign not in letters:
            raise NoWord(place)
    return text


def stands_at(word, place, part):
    # A slice alone would count a place below 0 from the end, and find the empty part behind it.
    if not 0 <= place <= len(word) - len(part):
        return False
    return word[place:place + len(part)] == part


def places(word, part):
    return [place for place in range(len(word) + 1) if stands_at(word, place, part)]


def put(word, place, old, new):
    if not stands_at(word, place, old):
        raise NoUse(0)
    return word[:place] + new + word[place + len(old):]

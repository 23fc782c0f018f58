"""A desk, which is told rows of text and answers each with a text."""

from letterlaw.completing import completed
from letterlaw.errors import NoOrder, NoRow, TooMany
from letterlaw.judging import gone_within, judged
from letterlaw.notes import is_number, read_pact, read_word, shown_entry, shown_pact, shown_steps, shown_word
from letterlaw.orders import ByWeights, FromRight, Order
from letterlaw.seeking import tables_within

LETTERS = "letters "
WEIGHTS = "order weights "
PACT = "pact "
FORM = "form "
ASK = "ask "
ROUNDS = 3
MOST_ROOMS = 3
MOST_PACTS = 8
MOST_SIDE = 10
MOST_WORD = 20
MOST_FIGURES = 7


def weight_of(text):
    # "0" is refused by the order, which takes weights from 1 on.
    if not is_number(text, MOST_FIGURES):
        raise NoOrder("a weight has one to seven figures, the first one no 0")
    return int(text)


def order_of(letters, row):
    if row == "order length":
        return Order(letters)
    if row == "order right":
        return FromRight(letters)
    if row.startswith(WEIGHTS):
        return ByWeights(letters, [weight_of(piece) for piece in row[len(WEIGHTS):].split(" ")])
    raise NoRow("there is no such row")


def rooms_for(letters):
    return max([rooms for rooms in range(1, MOST_ROOMS + 1) if tables_within(letters, rooms)])


def shown_entries(entries):
    return "".join([", " + shown_entry(entry) for entry in entries])


def shown_row(row):
    return "".join([str(room) for room in row])


def shown_answer(answer):
    if answer[0] == "alike":
        return "alike " + shown_steps(answer[1])
    if answer[0] == "forms":
        return "forms " + shown_word(answer[2]) + " " + shown_word(answer[3]) + shown_entries(answer[1])
    if answer[0] == "world":
        return "world " + " ".join([shown_row(row) for row in answer[1]])
    return "open"


class Desk:
    def __init__(self):
        # The letters are those of the order: without letters there is none.
        self.order = None
        self.pacts = []

    def told(self, row):
        if row.startswith(LETTERS):
            return self.begun(row)
        if self.order is None:
            raise NoRow("letters are told first")
        if row.startswith(PACT):
            return self.agreed(row[len(PACT):])
        if row == "drop":
            return self.dropped()
        if row == "rules":
            return self.completion()
        if row.startswith(FORM):
            return self.formed(row[len(FORM):])
        if row.startswith(ASK):
            return self.asked(row[len(ASK):])
        return self.ordered(row)

    def begun(self, row):
        self.order = Order(row[len(LETTERS):])
        self.pacts = []
        return row

    def ordered(self, row):
        self.order = order_of(self.order.letters, row)
        return row

    def agreed(self, text):
        pact = read_pact(self.order.letters, text, MOST_SIDE)
        if len(self.pacts) >= MOST_PACTS:
            raise TooMany("there are at most eight pacts")
        self.pacts.append(pact)
        return PACT + str(len(self.pacts) - 1)

    def dropped(self):
        if len(self.pacts) == 0:
            raise NoRow("there is no pact to drop")
        return PACT + shown_pact(self.pacts.pop())

    def completion(self):
        outcome = completed(self.order, self.pacts, ROUNDS)
        return ("whole" if outcome[0] else "open") + shown_entries(outcome[1])

    def formed(self, text):
        word = read_word(self.order.letters, text, MOST_WORD)
        outcome = completed(self.order, self.pacts, ROUNDS)
        end = gone_within(outcome[1], word)
        if not outcome[0] or end is None:
            return "open"
        return FORM + shown_word(end[1])

    def asked(self, text):
        parts = text.partition(" ")
        if parts[1] == "":
            raise NoRow("two words are asked for, with a blank between")
        one = read_word(self.order.letters, parts[0], MOST_WORD)
        other = read_word(self.order.letters, parts[2], MOST_WORD)
        rooms = rooms_for(self.order.letters)
        return shown_answer(judged(self.order, self.pacts, one, other, ROUNDS, rooms))

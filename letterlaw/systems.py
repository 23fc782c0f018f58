"""Systems: an order and rules, the uses of rules, roads and shortest forms."""

from letterlaw.errors import NotTurned, TooFar
from letterlaw.words import put, stands_at

WINDOW = 128


def first_within(rules, word, start, end):
    found = None
    for number, rule in enumerate(rules):
        # A left side may reach over the end, as only its place has to lie below.
        place = word.find(rule[0], start, end - 1 + len(rule[0]))
        if place >= 0:
            found = (number, place)
            # Of several at one place the least number counts: a later rule has to stand ahead of it.
            end = place
    return found


def first_from(rules, word, start):
    # Window by window, as a rule that stands nowhere is else looked for through the whole of a long word.
    size = WINDOW
    while start < len(word):
        found = first_within(rules, word, start, start + size)
        if found is not None:
            return found
        start = start + size
        size = size * 2
    return None


def gone(rules, word, most=4000):
    # The road and its end are told together, so that nobody has to walk the road again for its end.
    longest = max([len(rule[0]) for rule in rules], default=0)
    steps = []
    use = first_from(rules, word, 0)
    while use is not None:
        if len(steps) >= most:
            raise TooFar("the road needs more uses")
        number = use[0]
        place = use[1]
        word = put(word, place, rules[number][0], rules[number][1])
        steps.append((number, place, True))
        # What lies ahead of the place is as it was, and no left side stood there.
        use = first_from(rules, word, max(0, place - longest + 1))
    return (steps, word)


class System:
    def __init__(self, order, rules):
        for number, rule in enumerate(rules):
            if not order.before(rule[1], rule[0]):
                raise NotTurned(number)
        self.order = order
        self.rules = list(rules)

    def rules_told(self):
        return list(self.rules)

    def uses_of(self, word):
        uses = []
        for place in range(len(word)):
            for number, rule in enumerate(self.rules):
                if stands_at(word, place, rule[0]):
                    uses.append((number, place))
        return uses

    def first_use(self, word):
        return first_from(self.rules, word, 0)

    def is_shortest(self, word):
        return self.first_use(word) is None

    def road(self, word, most=4000):
        return gone(self.rules, word, most)[0]

    def shortest(self, word):
        return gone(self.rules, word)[1]

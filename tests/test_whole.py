"""What the document promises over the whole program: points 2 and 4."""

import copy
import itertools
import random
import unittest

from letterlaw.chains import Chain, back, moved, used, walked
from letterlaw.completing import completed
from letterlaw.desk import Desk
from letterlaw.errors import LetterError
from letterlaw.judging import judged, stands
from letterlaw.models import shortest_words, world_of
from letterlaw.notes import (
    read_pact, read_steps, read_word, shown_entry, shown_pact, shown_steps, shown_word,
)
from letterlaw.orders import ByWeights, FromRight, Order
from letterlaw.overlaps import meets, overlaps, peak, unmet
from letterlaw.seeking import tables_within, world_apart
from letterlaw.systems import System
from letterlaw.thinning import by_pacts, system_by, thinned
from letterlaw.words import letters_of, places, put, word_of
from letterlaw.worlds import World

MIRRORS = [("aa", ""), ("bb", ""), ("bab", "aba")]
# Pacts of "ab", some of which come to a whole list by some orders and some never do.
PACTS = [
    [], [("a", "b")], [("ab", "ba")], [("aa", "b")], MIRRORS, [("bb", "ba")], [("abba", "")], [("ab", ""), ("ba", "")],
    [("aaa", ""), ("bb", "")], [("aba", "b"), ("bb", "")], [("aab", "ba")], [("aa", "a"), ("bb", "b"), ("ab", "ba")],
    [("abab", ""), ("aa", "")], [("ba", "abb")], [("", "bbab")],
]
ORDERS = [Order("ab"), Order("ba"), FromRight("ab"), ByWeights("ab", [1, 3]), ByWeights("ba", [2, 5])]


def words_up_to(letters, length):
    return ["".join(word) for size in range(length + 1) for word in itertools.product(letters, repeat=size)]


def behind_one_use(pacts, word):
    found = []
    for one, other in pacts:
        for place in range(len(word) + 1):
            if word[place:].startswith(one):
                found.append(word[:place] + other + word[place + len(one):])
    return found


def groups(pacts, letters, length):
    # For each word the number of its group: words of one group are the same, by chains of words of that length.
    group = {}
    both = pacts + [(other, one) for one, other in pacts]
    for word in words_up_to(letters, length):
        waiting = [] if word in group else [word]
        while waiting:
            near = waiting.pop()
            if near not in group and len(near) <= length:
                group[near] = word
                waiting += behind_one_use(both, near)
    return group


def leads(pacts, word, steps):
    for number, place, forth in steps:
        assert 0 <= number < len(pacts) and 0 <= place
        old, new = pacts[number] if forth else pacts[number][::-1]
        assert word[place:place + len(old)] == old and place <= len(word)
        word = word[:place] + new + word[place + len(old):]
    return word


class Promise(unittest.TestCase):
    def answers(self, pacts, one, other):
        for order, rounds in itertools.product(ORDERS, (0, 1, 3)):
            yield order, judged(order, pacts, one, other, rounds, 2)

    def test_alike_and_apart(self):
        words = words_up_to("ab", 2) + ["aba", "bab", "abab", "bbab"]
        seen = {"alike": 0, "forms": 0, "world": 0, "open": 0}
        for pacts in PACTS:
            group = groups(pacts, "ab", 9)
            for one, other in itertools.product(words, repeat=2):
                told = set()
                for order, answer in self.answers(pacts, one, other):
                    self.assertIs(stands(order, pacts, one, other, answer), True)
                    told.add(answer[0])
                    seen[answer[0]] += 1
                    if answer[0] == "alike":
                        self.assertEqual(leads(pacts, one, answer[1]), other)
                apart = told & {"forms", "world"}
                with self.subTest(pacts, one=one, other=other, told=sorted(told)):
                    # No order and no number of rounds speaks against another, or against a chain.
                    self.assertFalse(apart and "alike" in told)
                    self.assertFalse(apart and group[one] == group[other])
        self.assertGreater(min(seen.values()), 100, seen)

    def test_apart_by_forms(self):
        for pacts, order in itertools.product(PACTS, ORDERS):
            answer = judged(order, pacts, "ab", "a", 3, 1)
            if answer[0] == "forms":
                rules = [(one, other) for one, other, steps in answer[1]]
                system = System(order, rules)
                self.assertEqual(unmet(system), [])
                for one, other in pacts:
                    self.assertEqual(system.shortest(one), system.shortest(other))
                self.assertEqual(answer[2:], (system.shortest("ab"), system.shortest("a")))
                self.assertNotEqual(answer[2], answer[3])

    def test_apart_by_a_world(self):
        found = 0
        for pacts, order in itertools.product(PACTS, ORDERS):
            for one, other in (("ab", "a"), ("a", "b"), ("bab", "")):
                answer = judged(order, pacts, one, other, 0, 3)
                if answer[0] == "world":
                    world = World(order.letters, answer[1])
                    self.assertIsNone(world.broken(pacts))
                    self.assertNotEqual(world.led(0, one), world.led(0, other))
                    found += 1
        self.assertGreater(found, 20)

    def test_each_rule_comes_with_its_own_chain(self):
        for pacts, order, rounds in itertools.product(PACTS, ORDERS, range(4)):
            for one, other, steps in completed(order, pacts, rounds)[1]:
                self.assertTrue(order.before(other, one))
                self.assertEqual(leads(pacts, one, steps), other)

    def whole(self):
        found = []
        for pacts, order in itertools.product(PACTS, ORDERS):
            answer = completed(order, pacts, 6)
            if answer[0]:
                found.append((order, pacts, system_by(order, answer[1])))
        self.assertGreater(len(found), 40)
        return found

    def test_whatever_uses_are_done_they_end_in_one_word(self):
        for order, pacts, system in self.whole():
            for word in words_up_to("ab", 5):
                seen, waiting, ends = {word}, [word], set()
                while waiting:
                    near = waiting.pop()
                    fresh = set(behind_one_use(system.rules_told(), near))
                    if not fresh:
                        ends.add(near)
                    for behind in sorted(fresh):
                        self.assertTrue(order.before(behind, near))
                    waiting += sorted(fresh - seen)
                    seen |= fresh
                self.assertEqual(ends, {system.shortest(word)})

    def test_the_same_just_where_the_forms_are(self):
        for order, pacts, system in self.whole():
            group = groups(pacts, "ab", 8)
            forms = {word: system.shortest(word) for word in words_up_to("ab", 4)}
            for one, other in itertools.product(forms, repeat=2):
                if group[one] == group[other]:
                    self.assertEqual(forms[one], forms[other])
                if forms[one] == forms[other]:
                    self.assertEqual(judged(order, pacts, one, other, 6, 1)[0], "alike")
            for word, form in forms.items():
                # No word of the same group comes before the form.
                same = [near for near in group if group[near] == group[word]]
                self.assertEqual([near for near in same if order.before(near, form)], [])

    def test_the_whole_list_is_the_only_one(self):
        for order, pacts, system in self.whole():
            rules = system.rules_told()
            more = [("b" + one, "b" + other) for one, other in pacts]
            for way in (pacts[::-1], [(other, one) for one, other in pacts], pacts + more, rules, rules[::-1] + pacts):
                answer = completed(order, way, 6)
                self.assertIs(answer[0], True)
                self.assertEqual([(one, other) for one, other, steps in answer[1]], rules)

    def test_at_the_desk(self):
        for pacts in PACTS:
            desk = Desk()
            desk.told("letters ab")
            for number, pact in enumerate(pacts):
                self.assertEqual(desk.told("pact " + shown_pact(pact)), "pact " + str(number))
            group = groups(pacts, "ab", 9)
            for one, other in itertools.product(words_up_to("ab", 3), repeat=2):
                answer = desk.told("ask " + shown_word(one) + " " + shown_word(other))
                if answer.startswith("alike "):
                    self.assertEqual(leads(pacts, one, read_steps(answer[len("alike "):])), other)
                elif answer != "open":
                    self.assertNotEqual(group[one], group[other])


ORDER = Order("ab")
STEPS = [(0, 1, True), (0, 0, True)]
ENTRIES = [("bb", "b", [(0, 0, True)]), ("a", "bbb", [(1, 0, True)])]
THREE = [[1, 0], [2, 2], [0, 1]]


def chain():
    return Chain([("ab", "ba"), ("aa", "")], "aab", STEPS)


def system():
    return System(ORDER, MIRRORS)


# Each question of the interface: what is asked, and what is handed in.
QUESTIONS = [
    (letters_of, ("ab",)), (word_of, ("ab", "abba")), (places, ("aaaa", "aa")), (put, ("abab", 2, "ab", "b")),
    (shown_word, ("",)), (shown_pact, (("a", ""),)), (shown_steps, (STEPS,)), (shown_entry, (ENTRIES[0],)),
    (read_word, ("ab", ".")), (read_pact, ("ab", "a = .")), (read_steps, ("3>0 12<7",)),
    (Order("ba").weight, ("ab",)), (Order("ba").before, ("a", "b")), (FromRight("ab").seen, ("ab",)),
    (FromRight("ab").rule_of, ("ab", "ba")), (ByWeights("ab", [1, 3]).ranked, (["b", "aa", "", "ab"],)),
    (used, ([("ab", "ba")], "ab", (0, 0, True))), (walked, ([("ab", "ba")], "aab", STEPS)), (back, (STEPS,)),
    (moved, (STEPS, 3)), (Chain, ([("ab", "ba")], "aab", STEPS)),
    (chain().first, ()), (chain().last, ()), (chain().words_on, ()), (chain().steps_told, ()), (chain().turned, ()),
    (chain().then, (chain().turned(),)), (chain().within, ("b", "a")), (chain().then(chain().turned()).straight, ()),
    (System, (ORDER, MIRRORS)), (system().rules_told, ()), (system().uses_of, ("babab",)),
    (system().first_use, ("babab",)), (system().is_shortest, ("ab",)), (system().road, ("babab",)),
    (system().shortest, ("babab",)),
    (overlaps, (MIRRORS,)), (peak, (MIRRORS, (1, 2, 1))), (meets, (system(), (1, 2, 1))),
    (unmet, (System(ORDER, [("aa", "b")]),)),
    (by_pacts, (ENTRIES, [(0, 1, True), (1, 0, False)])), (system_by, (Order("ab"), ENTRIES[:1])),
    (thinned, (ORDER, ENTRIES)), (completed, (ORDER, [("aa", "b"), ("bb", "")], 3)),
    (World, ("ab", THREE)), (World("ab", THREE).rooms, ()), (World("ab", THREE).table_told, ()),
    (World("ab", THREE).led, (0, "ab")), (World("ab", THREE).holds, (("aaa", ""),)),
    (World("ab", THREE).broken, ([("aaa", ""), ("b", "")],)), (World("ab", THREE).parted, ("b", "")),
    (World("ab", THREE).crossed, (World("ab", [[1, 0], [1, 1]]),)), (World("ab", THREE).reached, ()),
    (tables_within, ("ab", 3)), (world_apart, ("ab", [("aa", ""), ("bbb", "")], "ba", "ab", 3)),
    (shortest_words, (system(),)), (world_of, (system(),)),
    (judged, (ORDER, MIRRORS, "babab", "a", 3, 3)), (judged, (ORDER, MIRRORS, "abab", "ab", 3, 3)),
    (judged, (ORDER, [("bb", "ba")], "a", "b", 3, 3)), (judged, (ORDER, [("bb", "ba")], "bab", "baa", 0, 3)),
    (stands, (ORDER, MIRRORS, "babab", "a", ("alike", [(2, 0, True), (0, 2, True), (1, 1, True)]))),
    (stands, (ORDER, [("ba", "ab")], "b", "a", ("forms", [("ba", "ab", [(0, 0, True)])], "b", "a"))),
    (stands, (ORDER, [("bb", "ba")], "a", "b", ("world", [[0, 1], [1, 1]]))),
]


def laid_open(thing):
    # What an object tells, so that two of them can be compared.
    if isinstance(thing, Chain):
        return ("chain", thing.words_on(), thing.steps_told())
    if isinstance(thing, System):
        return ("system", thing.order.letters, thing.rules_told(), thing.shortest("babab"))
    if isinstance(thing, World):
        return ("world", thing.letters, thing.table_told())
    return copy.deepcopy(thing)


def wreck(thing):
    for part in thing if isinstance(thing, (list, tuple)) else []:
        wreck(part)
    if isinstance(thing, list):
        thing.reverse()
        thing.append(None)
        thing.pop(0)


class Lists(unittest.TestCase):
    def test_nothing_that_is_handed_in_is_changed(self):
        for asked, handed in QUESTIONS:
            with self.subTest(asked):
                mine = copy.deepcopy(handed)
                asked(*mine)
                self.assertEqual([laid_open(part) for part in mine if not isinstance(part, Order)], [
                    laid_open(part) for part in handed if not isinstance(part, Order)
                ])

    def test_what_is_told_is_the_askers_own(self):
        for asked, handed in QUESTIONS:
            with self.subTest(asked):
                mine = copy.deepcopy(handed)
                first = asked(*mine)
                told = laid_open(first)
                wreck(first)
                second = asked(*mine)
                self.assertEqual(laid_open(second), told)
                wreck(asked(*mine))
                self.assertEqual(laid_open(second), told)

    def test_what_is_done_later_to_what_was_handed_in(self):
        for asked, handed in QUESTIONS:
            with self.subTest(asked):
                mine = copy.deepcopy(handed)
                first = asked(*mine)
                told = laid_open(first)
                for part in mine:
                    wreck(part)
                self.assertEqual(laid_open(first), told)
                self.assertEqual(laid_open(asked(*copy.deepcopy(handed))), told)

    def test_an_order_keeps_its_own_weights(self):
        weights = [1, 3]
        order = ByWeights("ab", weights)
        weights[1] = 1
        weights.append(2)
        self.assertEqual(order.weight("ab"), 4)
        self.assertEqual(order.ranked(["b", "aa"]), ["aa", "b"])


class Asked(unittest.TestCase):
    def test_the_same_question_has_the_same_answer_whatever_was_asked_ahead(self):
        alone = [laid_open(asked(*copy.deepcopy(handed))) for asked, handed in QUESTIONS]
        chance = random.Random(1)
        for times in range(5):
            numbers = list(range(len(QUESTIONS))) * 2
            chance.shuffle(numbers)
            for number in numbers:
                asked, handed = QUESTIONS[number]
                answer = asked(*copy.deepcopy(handed))
                self.assertEqual(laid_open(answer), alone[number])
                wreck(answer)

    def test_a_refusal_leaves_nothing_behind(self):
        wrong = [
            (letters_of, ("aa",)), (word_of, ("ab", "c")), (put, ("ab", -1, "b", "")), (read_pact, ("ab", "ab")),
            (read_steps, ("00>0",)), (ByWeights, ("ab", [0, 1])), (walked, ([("a", "b")], "b", [(0, 0, True)])),
            (system().road, ("babab", 2)), (unmet, (System(ORDER, [("aa", "b"), ("ab", "a")]), 0)),
            (System, (ORDER, [("a", "b")])), (World, ("ab", [[0, 2]])), (world_apart, ("ab", [], "a", "", 4)),
            (shortest_words, (System(ORDER, []),)), (world_of, (System(ORDER, []),)),
            (judged, (ORDER, MIRRORS, "a", "a", 3, 4)),
        ]
        alone = [laid_open(asked(*copy.deepcopy(handed))) for asked, handed in QUESTIONS]
        for asked, handed in wrong:
            mine = copy.deepcopy(handed)
            with self.assertRaises(LetterError):
                asked(*mine)
            wreck(mine)
        self.assertEqual([laid_open(asked(*copy.deepcopy(handed))) for asked, handed in QUESTIONS], alone)

    def test_two_desks(self):
        rows = [
            "letters ab", "pact bb = ba", "ask a b", "rules", "order right", "rules", "pact aa = .", "form ba",
            "ask ab ba", "drop", "rules", "letters ba", "pact ab = ba", "rules", "ask ab ba",
        ]
        alone = Desk()
        answers = [alone.told(row) for row in rows]
        one, other = Desk(), Desk()
        together = []
        for row, late in zip(rows + [None] * 4, [None] * 4 + rows):
            if row is not None:
                together.append(one.told(row))
            if late is not None:
                other.told(late)
        self.assertEqual(together, answers)
        self.assertEqual([Desk().told("letters ab")], answers[:1])


if __name__ == "__main__":
    unittest.main()

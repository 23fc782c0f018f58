import copy
import inspect
import itertools
import random
import unittest

from letterlaw import judging as module
from letterlaw.completing import completed
from letterlaw.errors import TooMany
from letterlaw.judging import judged, stands
from letterlaw.orders import ByWeights, FromRight, Order

MIRRORS = [("aa", ""), ("bb", ""), ("bab", "aba")]
SORTED = [("ba", "ab")]
# By length never whole: behind a "b" all letters are the same.
ENDLESS = [("bb", "ba")]
# Roads by SORTED of 40 uses and of 41, and the words that they lead to.
WITHIN, WITHIN_END = "b" * 4 + "a" * 10, "a" * 10 + "b" * 4
BEYOND, BEYOND_END = "b" * 4 + "a" * 9 + "ba", "a" * 10 + "b" * 5


def words_up_to(letters, length):
    return ["".join(word) for size in range(length + 1) for word in itertools.product(letters, repeat=size)]


def road_by_the_point(rules, word, most):
    road = []
    while True:
        uses = [
            (place, number) for place in range(len(word)) for number, (left, right) in enumerate(rules)
            if word[place:].startswith(left)
        ]
        if not uses:
            return road, word
        if len(road) == most:
            return None
        place, number = min(uses)
        left, right = rules[number]
        word = word[:place] + right + word[place + len(left):]
        road.append((number, place))


def told_by_pacts(entries, road):
    return [(pact, at + place, forth) for number, place in road for pact, at, forth in entries[number][2]]


def led(letters, table, room, word):
    for letter in word:
        room = table[room][letters.index(letter)]
    return room


def parts_by_the_point(letters, table, pacts, one, other):
    for room, (left, right) in itertools.product(range(len(table)), pacts):
        if led(letters, table, room, left) != led(letters, table, room, right):
            return False
    return led(letters, table, 0, one) != led(letters, table, 0, other)


def judged_by_the_point(order, pacts, one, other, rounds, most):
    letters = order.letters
    whole, kept = completed(order, pacts, rounds)
    rules = [entry[:2] for entry in kept]
    ends = [road_by_the_point(rules, word, 40) for word in (one, other)]
    if None not in ends:
        (first, form), (second, other_form) = ends
        if form == other_form:
            back = [(pact, place, not forth) for pact, place, forth in told_by_pacts(kept, second)][::-1]
            steps = told_by_pacts(kept, first) + back
            if len(steps) <= 2000:
                return ("alike", steps)
        elif whole:
            return ("forms", kept, form, other_form)
    for rooms in range(1, most + 1):
        row = list(itertools.product(range(rooms), repeat=len(letters)))
        for table in itertools.product(row, repeat=rooms):
            if parts_by_the_point(letters, table, pacts, one, other):
                return ("world", [list(numbers) for numbers in table])
    return ("open",)


def leads_by_the_point(pacts, one, other, steps):
    for number, place, forth in steps:
        if number < 0 or number >= len(pacts) or place < 0 or place > len(one):
            return False
        old, new = pacts[number] if forth else pacts[number][::-1]
        if not one[place:].startswith(old):
            return False
        one = one[:place] + new + one[place + len(old):]
    return one == other


def forms_stand_by_the_point(order, pacts, one, other, kept, form, other_form):
    rules = [entry[:2] for entry in kept]
    for left, right, steps in kept:
        if not order.before(right, left) or not leads_by_the_point(pacts, left, right, steps):
            return False
    pairs = list(pacts)
    for i, j in itertools.product(range(len(rules)), repeat=2):
        left, other_left = rules[i][0], rules[j][0]
        for place in range(len(left)):
            both = min(len(left) - place, len(other_left))
            if (i != j or place > 0) and left[place:place + both] == other_left[:both]:
                word = left + other_left[both:]
                pairs.append((
                    rules[i][1] + word[len(left):], word[:place] + rules[j][1] + word[place + len(other_left):],
                ))
    for sides in pairs:
        ends = [road_by_the_point(rules, side, 4000) for side in sides]
        if None in ends or ends[0][1] != ends[1][1]:
            return False
    ends = [road_by_the_point(rules, word, 4000) for word in (one, other)]
    return None not in ends and (form, other_form) == (ends[0][1], ends[1][1]) and form != other_form


def stands_by_the_point(order, pacts, one, other, answer):
    if answer[0] == "alike":
        return leads_by_the_point(pacts, one, other, answer[1])
    if answer[0] == "forms":
        return forms_stand_by_the_point(order, pacts, one, other, *answer[1:])
    if answer[0] == "world":
        table = answer[1]
        if not 1 <= len(table) <= 8 or any(len(row) != len(order.letters) for row in table):
            return False
        if any(not 0 <= room < len(table) for row in table for room in row):
            return False
        return parts_by_the_point(order.letters, table, pacts, one, other)
    return True


def spoilt_steps(steps, count):
    # Each step left out, told twice, and changed at each of its places.
    ways = [steps[:at] + steps[at + 1:] for at in range(len(steps))]
    ways += [steps[:at] + steps[at:at + 1] + steps[at:] for at in range(len(steps))]
    for at, (number, place, forth) in enumerate(steps):
        others = [(number, place, not forth)]
        others += [(fresh, place, forth) for fresh in (number - 1, number + 1, -1, -count, count, 10 ** 20)]
        others += [(number, fresh, forth) for fresh in (place - 1, place + 1, -1, -place - 1, 10 ** 20, -10 ** 20)]
        ways += [steps[:at] + [step] + steps[at + 1:] for step in others if step != steps[at]]
    return ways + [steps + [(count, 0, True)], steps + [(0, -1, True)], steps[::-1]]


def spoilt_entries(kept, letters, count):
    ways = [kept[:at] + kept[at + 1:] for at in range(len(kept))] + [[]]
    for at, (one, other, steps) in enumerate(kept):
        others = [(other, one, steps), (one, one, steps), (one + letters[0], other, steps)]
        others += [(one, other + letters[0], steps), (one[1:], other, steps), (one, other, [])]
        others += [(one, other, way) for way in spoilt_steps(steps, count)]
        ways += [kept[:at] + [entry] + kept[at + 1:] for entry in others]
    return ways


def spoilt_tables(table):
    ways = [[], table[:-1], table + [[0] * len(table[0])], table + table[:1] * 8, table[::-1]]
    for at, row in enumerate(table):
        others = [[], row[:-1], row + [0]]
        for place, number in itertools.product(range(len(row)), (-1, -len(table), len(table), 8, 10 ** 20, 0, 1)):
            others.append(row[:place] + [number] + row[place + 1:])
        ways += [table[:at] + [other] + table[at + 1:] for other in others]
    return ways


def spoilt(answer, letters, count):
    if answer[0] == "alike":
        return [("alike", steps) for steps in spoilt_steps(answer[1], count)]
    if answer[0] == "world":
        return [("world", table) for table in spoilt_tables(answer[1])]
    if answer[0] == "open":
        return [answer]
    kept, form, other_form = answer[1:]
    ways = [("forms", entries, form, other_form) for entries in spoilt_entries(kept, letters, count)]
    ways += [("forms", kept, *forms) for forms in (
        (other_form, form), (form, form), (other_form, other_form), (form + letters[0], other_form),
        (form, other_form + letters[-1]), (form[1:], other_form), (form, other_form[1:]),
    )]
    return ways


def some_questions(seed, count):
    # Enough of them that each answer is among theirs.
    chance = random.Random(seed)
    for number in range(count):
        letters = "".join(chance.sample("abc", chance.choice([1, 2, 2, 3])))
        weights = [chance.choice([1, 2, 3, 30]) for letter in letters]
        order = [Order(letters), FromRight(letters), ByWeights(letters, weights)][number % 3]
        size = chance.choice([2, 3, 4])
        pacts = [
            tuple("".join(chance.choices(letters, k=chance.randint(0, size))) for side in range(2))
            for pact in range(chance.randint(0, 4))
        ]
        one, other = ["".join(chance.choices(letters, k=chance.randint(0, 7))) for side in range(2)]
        yield order, pacts, one, other, chance.randint(0, 3), chance.randint(1, {1: 4, 2: 3, 3: 2}[len(letters)])


class Judged(unittest.TestCase):
    def refused(self, *arguments):
        with self.assertRaises(TooMany) as caught:
            judged(*arguments)
        self.assertIs(type(caught.exception), TooMany)

    def test_alike(self):
        self.assertEqual(judged(Order("ab"), MIRRORS, "babab", "a", 3, 3), (
            "alike", [(2, 0, True), (0, 2, True), (1, 1, True)],
        ))
        self.assertEqual(judged(Order("ab"), MIRRORS, "a", "babab", 3, 3), (
            "alike", [(1, 1, False), (0, 2, False), (2, 0, False)],
        ))

    def test_along_the_first_road_and_back_along_the_second(self):
        self.assertEqual(judged(Order("ab"), SORTED, "aba", "baa", 3, 3), (
            "alike", [(0, 1, True), (0, 1, False), (0, 0, False)],
        ))

    def test_by_the_told_pacts_not_by_the_rules(self):
        # The rule ("ba", "ab") has a chain of its own.
        self.assertEqual(judged(Order("ab"), [("ab", "ba")], "ba", "ab", 0, 1), ("alike", [(0, 0, False)]))
        self.assertEqual(judged(Order("ab"), [("aa", "b")], "ba", "ab", 1, 1), (
            "alike", [(0, 0, False), (0, 1, True)],
        ))

    def test_a_word_and_itself(self):
        self.assertEqual(judged(Order("ab"), [], "ab", "ab", 0, 1), ("alike", []))
        self.assertEqual(judged(Order("ab"), SORTED, "ab", "ab", 3, 3), ("alike", []))
        # The road is gone and gone back.
        self.assertEqual(judged(Order("ab"), SORTED, "ba", "ba", 3, 3), ("alike", [(0, 0, True), (0, 0, False)]))

    def test_forms(self):
        kept = [("aa", "", [(0, 0, True)]), ("bb", "", [(1, 0, True)]), ("bab", "aba", [(2, 0, True)])]
        self.assertEqual(judged(Order("ab"), MIRRORS, "abab", "ab", 3, 3), ("forms", kept, "ba", "ab"))
        self.assertEqual(judged(Order("ab"), MIRRORS, "ab", "abab", 3, 3), ("forms", kept, "ab", "ba"))
        self.assertEqual(judged(Order("ab"), [], "ab", "", 0, 1), ("forms", [], "ab", ""))

    def test_forms_go_ahead_of_worlds(self):
        for most in (1, 2, 3):
            self.assertEqual(judged(Order("ab"), [], "a", "b", 3, most), ("forms", [], "a", "b"))

    def test_not_whole_with_forms_that_are_the_same(self):
        self.assertIs(completed(Order("ab"), ENDLESS, 3)[0], False)
        for rounds in range(4):
            self.assertEqual(judged(Order("ab"), ENDLESS, "bb", "ba", rounds, 3), ("alike", [(0, 0, True)]))

    def test_not_whole_with_forms_that_are_unlike(self):
        for rounds in range(4):
            self.assertEqual(judged(Order("ab"), ENDLESS, "a", "b", rounds, 3), ("world", [[0, 1], [1, 1]]))
            self.assertEqual(judged(Order("ab"), ENDLESS, "aa", "a", rounds, 2), ("world", [[1, 1], [0, 0]]))

    def test_open(self):
        # Both are the same, but that is found in the first round alone.
        self.assertEqual(judged(Order("ab"), ENDLESS, "bab", "baa", 0, 3), ("open",))
        self.assertEqual(judged(Order("ab"), ENDLESS, "bab", "baa", 1, 3), (
            "alike", [(0, 0, False), (0, 1, True), (0, 0, True)],
        ))
        # Both are apart, but not with one room.
        self.assertEqual(judged(Order("ab"), ENDLESS, "a", "b", 3, 1), ("open",))

    def test_as_many_rooms_as_are_told(self):
        pacts = [("abba", "")]
        for most, answer in ((1, ("open",)), (2, ("open",)), (3, ("world", [[0, 1], [2, 0], [1, 2]]))):
            self.assertEqual(judged(FromRight("ab"), pacts, "ba", "ab", 3, most), answer)

    def test_as_many_rounds_as_are_told(self):
        pacts = [("aa", "b"), ("bb", "")]
        self.assertEqual(judged(Order("ab"), pacts, "ab", "ba", 0, 3), ("open",))
        self.assertEqual(judged(Order("ab"), pacts, "ab", "ba", 1, 3)[0], "alike")
        self.assertEqual(judged(Order("ab"), pacts, "a", "b", 0, 1), ("open",))
        self.assertEqual(judged(Order("ab"), pacts, "a", "b", 1, 1)[0], "forms")

    def test_roads_of_40_uses(self):
        self.assertEqual(len(road_by_the_point(SORTED, WITHIN, 100)[0]), 40)
        answer = judged(Order("ab"), SORTED, WITHIN, WITHIN_END, 3, 3)
        self.assertEqual((answer[0], len(answer[1])), ("alike", 40))
        answer = judged(Order("ab"), SORTED, WITHIN_END, WITHIN, 3, 3)
        self.assertEqual((answer[0], len(answer[1])), ("alike", 40))
        answer = judged(Order("ab"), SORTED, WITHIN, WITHIN, 3, 3)
        self.assertEqual((answer[0], len(answer[1])), ("alike", 80))
        self.assertEqual(judged(Order("ab"), SORTED, WITHIN, "b", 3, 3)[2:], (WITHIN_END, "b"))
        self.assertEqual(judged(Order("ab"), SORTED, "b", WITHIN, 3, 3)[2:], ("b", WITHIN_END))

    def test_roads_of_41_uses(self):
        self.assertEqual(len(road_by_the_point(SORTED, BEYOND, 100)[0]), 41)
        for one, other in ((BEYOND, BEYOND_END), (BEYOND_END, BEYOND), (BEYOND, BEYOND)):
            self.assertEqual(judged(Order("ab"), SORTED, one, other, 3, 3), ("open",))
        for one, other in ((BEYOND, ""), ("", BEYOND)):
            self.assertEqual(judged(Order("ab"), SORTED, one, other, 3, 1), ("open",))
            self.assertEqual(judged(Order("ab"), SORTED, one, other, 3, 3), ("world", [[0, 1], [1, 0]]))

    def test_chains_of_2000_steps_and_of_2001(self):
        # "d" goes by 1 step and "a" by 10, so that "c" goes to "b" by 9 + 1 + 90 steps, or by 8 + 1 + 60.
        order = Order("abcd")
        for pact, size in ((("b" + "a" * 9, "c" + "d" * 9), 100), (("b" + "a" * 6, "c" + "d" * 8), 69)):
            pacts = [("d", ""), ("a" + "d" * 9, ""), pact]
            whole, kept = completed(order, pacts, 0)
            self.assertIs(whole, True)
            self.assertEqual([(one, other, len(steps)) for one, other, steps in kept], [
                ("a", "", 10), ("c", "b", size), ("d", "", 1),
            ])
            for one, other in (("c" * 20, "b" * 20), ("b" * 20, "c" * 20), ("cb" * 10, "bc" * 10)):
                answer = judged(order, pacts, one, other, 0, 2)
                self.assertEqual((answer[0], len(answer[1])), ("alike", size * 20))
                self.assertTrue(leads_by_the_point(pacts, one, other, answer[1]))
            # 29 uses: 2,900 steps and 2,001.
            for one, other in (("c" * 20, "c" * 9 + "b" * 11), ("c" * 9 + "b" * 11, "c" * 20)):
                self.assertEqual(judged(order, pacts, one, other, 0, 2), ("open",))
            self.assertEqual(judged(order, pacts, "c" * 20, "c" * 9, 0, 2)[0], "forms")

    def test_too_many_ahead_of_all_else(self):
        for letters, most in (("a", 5), ("ab", 4), ("abc", 3), ("abcd", 3), ("abcde", 2), ("abcdef", 2)):
            for rooms in range(most, 9):
                for pacts in ([], [("aa", "a")], [("", "a")]):
                    self.refused(Order(letters), pacts, "a", "a", 3, rooms)
                    self.refused(Order(letters), pacts, "a", "", 0, rooms)
            for one in ("a", ""):
                self.assertEqual(judged(Order(letters), [], "a", one, 0, most - 1)[0], "alike" if one else "forms")

    def test_worlds_are_of_the_orders_letters(self):
        # Of "ba" the first number in a row is that of "b".
        self.assertEqual(judged(FromRight("ba"), [("abba", "")], "ba", "ab", 3, 3), (
            judged_by_the_point(FromRight("ba"), [("abba", "")], "ba", "ab", 3, 3)
        ))
        self.assertEqual(judged(Order("ba"), [("aa", "ab")], "a", "b", 3, 3), ("world", [[0, 1], [1, 1]]))

    def test_pacts_that_stop_at_once(self):
        # Nothing is kept, so each word is its own form.
        pacts = [("b" * 11, "")]
        self.assertEqual(completed(Order("ab"), pacts, 3), (False, []))
        self.assertEqual(judged(Order("ab"), pacts, "ab", "ab", 3, 3), ("alike", []))
        self.assertEqual(judged(Order("ab"), pacts, "ab", "ba", 3, 3), ("open",))
        self.assertEqual(judged(Order("ab"), pacts, "a", "b", 3, 3), ("world", [[1, 0], [0, 1]]))

    def test_as_the_point_tells(self):
        seen = {"alike": 0, "forms": 0, "world": 0, "open": 0}
        for question in some_questions(1, 600):
            with self.subTest(question[1:], order=type(question[0]), letters=question[0].letters):
                answer = judged(*question)
                self.assertEqual(answer, judged_by_the_point(*question))
                seen[answer[0]] += 1
        self.assertGreater(min(seen.values()), 20, seen)


class Alike(unittest.TestCase):
    def test_stands(self):
        steps = [(2, 0, True), (0, 2, True), (1, 1, True)]
        self.assertIs(stands(Order("ab"), MIRRORS, "babab", "a", ("alike", steps)), True)
        self.assertIs(stands(Order("ab"), MIRRORS, "ab", "ab", ("alike", [])), True)
        self.assertIs(stands(Order("ab"), [], "", "", ("alike", [])), True)

    def test_by_itself_whatever_would_be_judged(self):
        self.assertIs(stands(Order("ab"), [("", "b")], "", "bb", ("alike", [(0, 0, True), (0, 1, True)])), True)
        self.assertIs(stands(Order("ab"), SORTED, "ab", "ab", ("alike", [(0, 0, False), (0, 0, True)])), True)

    def test_other_words(self):
        steps = [(2, 0, True), (0, 2, True), (1, 1, True)]
        for one, other in (("a", "babab"), ("babab", "b"), ("babab", ""), ("ababa", "a"), ("", "")):
            self.assertIs(stands(Order("ab"), MIRRORS, one, other, ("alike", steps)), False)

    def test_spoilt_at_each_place(self):
        steps = [(2, 0, True), (0, 2, True), (1, 1, True)]
        ways = spoilt_steps(steps, 3)
        self.assertGreater(len(ways), 40)
        for way in ways:
            with self.subTest(way):
                self.assertIs(stands(Order("ab"), MIRRORS, "babab", "a", ("alike", way)), False)

    def test_a_step_of_no_pact_and_a_place_below_0(self):
        pacts = [("ab", "ba"), ("a", "")]
        for step in ((2, 0, True), (-1, 0, True), (-2, 0, True), (0, -1, True), (0, -2, True), (1, -2, True)):
            for other in ("ba", "b", "ab", "abb"):
                self.assertIs(stands(Order("ab"), pacts, "ab", other, ("alike", [step])), False)
        self.assertIs(stands(Order("ab"), pacts, "ab", "ab", ("alike", [(1, -1, False), (1, 0, True)])), False)

    def test_long_chains(self):
        pacts = [("", "aaaaaaaaaa"), ("ab", "ba")]
        for size in (2000, 2001):
            steps = [(1, 0, True), (1, 0, False)] * (size // 2) + [(1, 0, True)] * (size % 2)
            end = "ba" if size % 2 else "ab"
            self.assertIs(stands(Order("ab"), pacts, "ab", end, ("alike", steps)), True)
            self.assertIs(stands(Order("ab"), pacts, "ab", end[::-1], ("alike", steps)), False)
        self.assertIs(stands(Order("ab"), pacts, "", "a", ("alike", [(0, 0, True)] * 2000)), False)
        there = [(0, 0, True)] * 1000
        back = [(0, 0, False)] * 1000
        self.assertIs(stands(Order("ab"), pacts, "b", "b", ("alike", there + back)), True)


class Forms(unittest.TestCase):
    KEPT = [("aa", "", [(0, 0, True)]), ("bb", "", [(1, 0, True)]), ("bab", "aba", [(2, 0, True)])]

    def stood(self, order, pacts, one, other, *papers):
        told = stands(order, pacts, one, other, ("forms", *papers))
        self.assertIs(told, forms_stand_by_the_point(order, pacts, one, other, *papers))
        return told

    def test_stands(self):
        self.assertTrue(self.stood(Order("ab"), MIRRORS, "abab", "ab", self.KEPT, "ba", "ab"))
        self.assertTrue(self.stood(Order("ab"), [], "ab", "ba", [], "ab", "ba"))
        self.assertTrue(self.stood(Order("ab"), [("a", "a")], "a", "", [], "a", ""))

    def test_by_itself_whatever_would_be_judged(self):
        # Not sorted, one told twice, and one that another rule makes needless.
        more = self.KEPT[::-1] + self.KEPT[:1] + [("baa", "b", [(0, 1, True)])]
        self.assertTrue(self.stood(Order("ab"), MIRRORS, "abab", "ab", more, "ba", "ab"))

    def test_other_words(self):
        for one, other in (("ab", "abab"), ("abab", "abab"), ("ab", "ab"), ("abab", "b"), ("", "")):
            self.assertFalse(self.stood(Order("ab"), MIRRORS, one, other, self.KEPT, "ba", "ab"))

    def test_other_forms(self):
        for form, other_form in (("ab", "ba"), ("ba", "ba"), ("ab", "ab"), ("abab", "ab"), ("ba", "abaa"), ("", "")):
            self.assertFalse(self.stood(Order("ab"), MIRRORS, "abab", "ab", self.KEPT, form, other_form))

    def test_forms_that_are_the_same(self):
        self.assertFalse(self.stood(Order("ab"), MIRRORS, "ab", "ab", self.KEPT, "ab", "ab"))
        self.assertFalse(self.stood(Order("ab"), MIRRORS, "bab", "aba", self.KEPT, "aba", "aba"))
        self.assertFalse(self.stood(Order("ab"), [], "", "", [], "", ""))

    def test_an_entry_whose_second_side_does_not_come_before(self):
        kept = [("ba", "ab", [(0, 0, True)])]
        self.assertTrue(self.stood(Order("ab"), SORTED, "ba", "a", kept, "ab", "a"))
        self.assertFalse(self.stood(Order("ba"), SORTED, "ba", "a", kept, "ab", "a"))
        self.assertFalse(self.stood(FromRight("ab"), SORTED, "ba", "a", kept, "ab", "a"))
        self.assertFalse(self.stood(Order("ab"), SORTED, "b", "a", kept + [("b", "b", [])], "b", "a"))
        self.assertFalse(self.stood(Order("ab"), SORTED, "b", "a", [("", "", [])] + kept, "b", "a"))
        self.assertFalse(self.stood(Order("ab"), [("", "a")], "b", "", [("", "a", [(0, 0, True)])], "b", ""))

    def test_the_last_entry_counts(self):
        kept = self.KEPT[:2] + [("aba", "bab", [(2, 0, False)])]
        self.assertFalse(self.stood(Order("ab"), MIRRORS, "abab", "ab", kept, "ba", "ab"))
        self.assertTrue(self.stood(Order("ba"), MIRRORS, "abab", "ab", kept, "ba", "ab"))

    def test_steps_that_do_not_lead(self):
        for at, entry in enumerate(self.KEPT):
            for steps in ([], entry[2] * 2, [(at, 1, True)], [(at, -1, True)], [(3, 0, True)], [(at - 3, 0, True)]):
                kept = self.KEPT[:at] + [(entry[0], entry[1], steps)] + self.KEPT[at + 1:]
                self.assertFalse(self.stood(Order("ab"), MIRRORS, "abab", "ab", kept, "ba", "ab"))

    def test_steps_that_lead_another_way(self):
        entry = ("aa", "", [(0, 2, False), (0, 0, True), (0, 0, True)])
        self.assertTrue(self.stood(Order("ab"), MIRRORS, "abab", "ab", [entry] + self.KEPT[1:], "ba", "ab"))

    def test_an_overlap_that_does_not_meet(self):
        # "ab" and "ba" are the same, by "aaa": all but the overlaps is as it should be.
        kept = [("aa", "b", [(0, 0, True)])]
        self.assertFalse(self.stood(Order("ab"), [("aa", "b")], "ab", "ba", kept, "ab", "ba"))
        more = kept + [("ba", "ab", [(0, 0, False), (0, 1, True)])]
        self.assertTrue(self.stood(Order("ab"), [("aa", "b")], "ab", "b", more, "ab", "b"))

    def test_the_last_overlap_counts(self):
        pacts = [("aa", ""), ("cb", "bb")]
        kept = [("aa", "", [(0, 0, True)]), ("cb", "bb", [(1, 0, True)])]
        self.assertTrue(self.stood(Order("abc"), pacts, "a", "b", kept, "a", "b"))
        pacts[1], kept[1] = ("cc", "b"), ("cc", "b", [(1, 0, True)])
        self.assertFalse(self.stood(Order("abc"), pacts, "a", "b", kept, "a", "b"))

    def test_a_pact_whose_sides_have_unlike_forms(self):
        self.assertFalse(self.stood(Order("ab"), [("a", "b")], "a", "b", [], "a", "b"))
        for lacking in range(3):
            kept = self.KEPT[:lacking] + self.KEPT[lacking + 1:]
            one, other = ("a", "b")
            self.assertFalse(self.stood(Order("ab"), MIRRORS, one, other, kept, one, other))
        self.assertFalse(self.stood(Order("ab"), MIRRORS + [("a", "b")], "abab", "ab", self.KEPT, "ba", "ab"))
        self.assertTrue(self.stood(Order("ab"), MIRRORS + [("baba", "ab")], "abab", "ab", self.KEPT, "ba", "ab"))

    def test_no_other_pacts(self):
        # By fewer pacts the steps are none, or lead elsewhere.
        for pacts in (MIRRORS[:2], MIRRORS[1:], MIRRORS[::-1], []):
            self.assertFalse(self.stood(Order("ab"), pacts, "abab", "ab", self.KEPT, "ba", "ab"))


class FarRoads(unittest.TestCase):
    # All letters but "f" are nothing: by the rules that takes 1, 11, 111 and 1,000 uses, and 1 for "e".
    ORDER = ByWeights("abcdef", [1, 11, 111, 1000, 10000, 1])
    PACTS = [(letter, "") for letter in "abcde"]
    RULES = [("a", ""), ("b", "a" * 10), ("c", "b" * 10), ("d", "c" * 9), ("e", "")]

    def entry(self, one, other):
        away = [("abcde".index(letter), 0, True) for letter in one]
        return (one, other, away + [("abcde".index(letter), 0, False) for letter in reversed(other)])

    def stood(self, rules, pacts, one, other, form, other_form):
        kept = [self.entry(left, right) for left, right in rules]
        return stands(self.ORDER, pacts, one, other, ("forms", kept, form, other_form))

    def test_how_far_it_is(self):
        self.assertEqual([len(road_by_the_point(self.RULES, word, 9000)[0]) for word in "abcde"], [1, 11, 111, 1000, 1])
        for left, right in self.RULES:
            entry = self.entry(left, right)
            self.assertTrue(leads_by_the_point(self.PACTS, left, right, entry[2]))

    def test_the_first_word(self):
        self.assertIs(self.stood(self.RULES, self.PACTS, "dddd", "f", "", "f"), True)
        self.assertIs(self.stood(self.RULES, self.PACTS, "dddda", "f", "", "f"), False)

    def test_the_second_word(self):
        self.assertIs(self.stood(self.RULES, self.PACTS, "f", "dddd", "f", ""), True)
        self.assertIs(self.stood(self.RULES, self.PACTS, "f", "dddda", "f", ""), False)

    def test_sides_of_pacts(self):
        for pact, told in (("dddd", True), ("dddda", False)):
            for more in ((pact, ""), ("", pact), (pact, "a")):
                self.assertIs(self.stood(self.RULES, self.PACTS + [more], "", "f", "", "f"), told)

    def test_overlaps(self):
        # No road but that of the peak goes by the last rule, as an "e" goes by the rule ahead of it.
        for right, told in (("dddd", True), ("dddda", False)):
            kept = [self.entry(left, right) for left, right in self.RULES]
            kept.append(("ef", right + "f", self.entry("e", right)[2]))
            self.assertIs(stands(self.ORDER, self.PACTS, "ef", "", ("forms", kept, "f", "")), told)

    def test_chains_have_no_roads(self):
        steps = [(3, 0, False)] * 10
        self.assertIs(stands(self.ORDER, self.PACTS, "f", "d" * 10 + "f", ("alike", steps)), True)

    def test_other_answers_have_no_roads(self):
        table = [[0, 0, 0, 0, 0, 1], [1, 1, 1, 1, 1, 0]]
        self.assertIs(stands(self.ORDER, self.PACTS, "d" * 10, "f", ("world", table)), True)
        self.assertIs(stands(self.ORDER, self.PACTS, "d" * 10, "f", ("open",)), True)


class Worlds(unittest.TestCase):
    PACTS = [("abba", "")]
    TABLE = [[0, 1], [2, 0], [1, 2]]

    def test_stands(self):
        self.assertIs(stands(Order("ab"), self.PACTS, "ba", "ab", ("world", self.TABLE)), True)
        self.assertIs(stands(Order("ab"), [], "a", "", ("world", [[1, 1], [1, 1]])), True)

    def test_by_itself_whatever_would_be_judged(self):
        # Of eight rooms, though there would be too many tables; and not the first one.
        ring = [[(room + 1) % 8, room] for room in range(8)]
        self.assertIs(stands(Order("ab"), [("a" * 8, ""), ("b", "")], "a", "aaa", ("world", ring)), True)
        self.assertIs(stands(Order("ab"), [("a" * 8, ""), ("b", "")], "a", "ab", ("world", ring)), False)

    def test_other_words(self):
        for one, other in (("ab", "ab"), ("a", ""), ("a", "abbaa"), ("", "")):
            self.assertIs(stands(Order("ab"), self.PACTS, one, other, ("world", self.TABLE)), False)

    def test_words_that_are_parted_from_another_room_alone(self):
        self.assertIs(stands(Order("a"), [], "a", "", ("world", [[0], [0]])), False)
        self.assertIs(stands(Order("a"), [], "a", "", ("world", [[1], [1]])), True)

    def test_a_pact_that_does_not_hold(self):
        for pact in (("a", ""), ("ab", "ba"), ("b", "bb"), ("", "aab")):
            self.assertIs(stands(Order("ab"), self.PACTS + [pact], "ba", "ab", ("world", self.TABLE)), False)
            self.assertIs(stands(Order("ab"), [pact] + self.PACTS, "ba", "ab", ("world", self.TABLE)), False)
        # From room 0 both sides lead to the same room, from room 1 they don't.
        self.assertIs(stands(Order("ab"), [("a", "")], "b", "", ("world", [[0, 1], [0, 1]])), False)
        self.assertIs(stands(Order("ab"), [("a", "")], "b", "", ("world", [[0, 1], [1, 1]])), True)

    def test_a_table_that_is_none_of_a_world(self):
        for table in (
            [], [[]], [[0]], [[0, 0, 0]], [[0, 1]], [[0, 1], [2, 0]], [[0, 1], [2, 0], [1, 3]],
            [[0, 1], [2, 0], [1, -1]], [[0, 1], [2, 0], [1]], [[0, 1], [2, 0], [1, 2, 0]], [[0, 1], [2, 0], []],
            [[0, -2], [2, 0], [1, 2]],
        ):
            self.assertIs(stands(Order("ab"), self.PACTS, "ba", "ab", ("world", table)), False)

    def test_eight_rooms_and_nine(self):
        for size in (7, 8, 9):
            table = [[1]] + [[0]] * (size - 1)
            self.assertIs(stands(Order("a"), [], "a", "", ("world", table)), size < 9)

    def test_spoilt_at_each_place(self):
        for table in spoilt_tables(self.TABLE):
            told = stands_by_the_point(Order("ab"), self.PACTS, "ba", "ab", ("world", table))
            self.assertIs(stands(Order("ab"), self.PACTS, "ba", "ab", ("world", table)), told)
            self.assertEqual(told, table == self.TABLE)

    def test_letters_of_the_order(self):
        self.assertIs(stands(Order("ab"), [], "b", "", ("world", [[0, 1], [0, 0]])), True)
        self.assertIs(stands(Order("ba"), [], "b", "", ("world", [[0, 1], [0, 0]])), False)


class Papers(unittest.TestCase):
    def test_open_always_stands(self):
        for pacts in ([], MIRRORS, [("a", "")]):
            for one, other in (("a", "a"), ("a", ""), ("", "bab")):
                self.assertIs(stands(Order("ab"), pacts, one, other, ("open",)), True)

    def test_what_is_judged_stands(self):
        for question in some_questions(2, 400):
            order, pacts, one, other, rounds, most = question
            answer = judged(*question)
            self.assertIs(stands(order, pacts, one, other, answer), True)
            self.assertIs(stands_by_the_point(order, pacts, one, other, answer), True)

    def test_what_is_judged_is_spoilt(self):
        seen = {True: 0, False: 0}
        for question in some_questions(3, 120):
            order, pacts, one, other, rounds, most = question
            for answer in spoilt(judged(*question), order.letters, len(pacts))[:150]:
                with self.subTest(pacts, one=one, other=other, answer=answer):
                    told = stands(order, pacts, one, other, answer)
                    self.assertIs(told, stands_by_the_point(order, pacts, one, other, answer))
                    seen[told] += 1
        self.assertGreater(seen[False], 1000, seen)
        self.assertGreater(seen[True], 20, seen)

    def test_papers_of_another_question(self):
        questions = list(some_questions(4, 60))
        answers = [(judged(*question), question[0].letters) for question in questions]
        for order, pacts, one, other, rounds, most in questions:
            for answer, letters in answers:
                if set(letters) <= set(order.letters):
                    told = stands(order, pacts, one, other, answer)
                    self.assertIs(told, stands_by_the_point(order, pacts, one, other, answer))


class Lists(unittest.TestCase):
    QUESTIONS = [
        (Order("ab"), MIRRORS, "babab", "a", 3, 3),
        (Order("ab"), MIRRORS, "abab", "ab", 3, 3),
        (FromRight("ab"), [("abba", "")], "ba", "ab", 3, 3),
        (Order("ab"), ENDLESS, "bab", "baa", 0, 3),
    ]

    def spoil(self, answer):
        for part in answer[1:2]:
            for thing in part:
                if isinstance(thing, list):
                    thing.clear()
                elif isinstance(thing[2], list):
                    thing[2].append((9, 9, True))
            part.clear()

    def test_each_answer_is_among_them(self):
        self.assertEqual([judged(*question)[0] for question in self.QUESTIONS], ["alike", "forms", "world", "open"])

    def test_answers_are_the_askers_own(self):
        for order, pacts, one, other, rounds, most in self.QUESTIONS:
            pacts = list(pacts)
            answer = judged(order, pacts, one, other, rounds, most)
            kept = copy.deepcopy(answer)
            self.spoil(answer)
            second = judged(order, pacts, one, other, rounds, most)
            self.assertEqual(second, kept)
            self.spoil(judged(order, pacts, one, other, rounds, most))
            pacts.clear()
            judged(order, pacts, one, other, rounds, most)
            self.assertEqual(second, kept)

    def test_nothing_is_changed(self):
        for order, pacts, one, other, rounds, most in self.QUESTIONS:
            handed = list(pacts)
            answer = judged(order, handed, one, other, rounds, most)
            kept = copy.deepcopy(answer)
            for times in range(2):
                self.assertIs(stands(order, handed, one, other, answer), True)
                self.assertEqual(answer, kept)
                self.assertEqual(handed, pacts)

    def test_papers_that_are_changed_are_looked_at_anew(self):
        for order, pacts, one, other, rounds, most in self.QUESTIONS[:3]:
            answer = judged(order, pacts, one, other, rounds, most)
            self.assertIs(stands(order, pacts, one, other, answer), True)
            thing = answer[1].pop()
            self.assertIs(stands(order, pacts, one, other, answer), False)
            answer[1].append(thing)
            self.assertIs(stands(order, pacts, one, other, answer), True)

    def test_kinds(self):
        alike, forms, world, unknown = [judged(*question) for question in self.QUESTIONS]
        for answer in (alike, forms, world, unknown):
            self.assertIs(type(answer), tuple)
        self.assertEqual([type(part) for part in alike], [str, list])
        self.assertEqual([type(part) for part in forms], [str, list, str, str])
        self.assertEqual([type(part) for part in world], [str, list])
        self.assertEqual(unknown, ("open",))
        for step in alike[1] + [step for entry in forms[1] for step in entry[2]]:
            self.assertIs(type(step), tuple)
            self.assertEqual([type(part) for part in step], [int, int, bool])
        for entry in forms[1]:
            self.assertIs(type(entry), tuple)
            self.assertEqual([type(part) for part in entry], [str, str, list])
        for row in world[1]:
            self.assertIs(type(row), list)
            self.assertEqual({type(room) for room in row}, {int})


class Interface(unittest.TestCase):
    def test_arguments(self):
        self.assertEqual(str(inspect.signature(module.judged)), "(order, pacts, one, other, rounds, most)")
        self.assertEqual(str(inspect.signature(module.stands)), "(order, pacts, one, other, answer)")


if __name__ == "__main__":
    unittest.main()

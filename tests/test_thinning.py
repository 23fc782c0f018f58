import copy
import inspect
import itertools
import unittest

from letterlaw import thinning as module
from letterlaw.chains import Chain, walked
from letterlaw.errors import NotTurned, TooFar
from letterlaw.orders import ByWeights, FromRight, Order
from letterlaw.systems import System
from letterlaw.thinning import by_pacts, system_by, thinned

# The told pacts of the loops below: a chain from "b" to "a" may have any number of steps.
LOOPS = [("b", "a"), ("b", "c"), ("c", "a")]


def words_up_to(letters, length):
    return ["".join(word) for size in range(length + 1) for word in itertools.product(letters, repeat=size)]


def loop(size):
    # A chain of so many steps of LOOPS from "b" to "a".
    steps = [(0, 0, True), (0, 0, False)] * ((size - 1) // 2)
    return steps + ([(0, 0, True)] if size % 2 else [(1, 0, True), (2, 0, True)])


def told(pacts):
    return [(one, other, [(number, 0, True)]) for number, (one, other) in enumerate(pacts)]


def pairs(entries):
    return [(one, other) for one, other, steps in entries]


def chain_back(steps):
    return [(number, place, not forth) for number, place, forth in steps][::-1]


def first_uses(rules, word, most=40):
    road = []
    while True:
        uses = [
            (place, number) for place in range(len(word)) for number, (left, right) in enumerate(rules)
            if word[place:].startswith(left)
        ]
        if not uses:
            return road, word
        if len(road) == most:
            raise TooFar()
        place, number = min(uses)
        left, right = rules[number]
        word = word[:place] + right + word[place + len(left):]
        road.append((number, place))


def road_told(entries, road):
    return [(pact, at + place, forth) for number, place in road for pact, at, forth in entries[number][2]]


def one_pass(order, entries):
    # The sorted list and the new one, word for word as the point tells.
    turned = []
    for one, other, steps in entries:
        if one != other:
            turned.append((one, other, steps) if order.before(other, one) else (other, one, chain_back(steps)))
    by_sides = []
    for entry in turned:
        at = len(by_sides)
        while at > 0 and (
            order.before(entry[0], by_sides[at - 1][0])
            or entry[0] == by_sides[at - 1][0] and order.before(entry[1], by_sides[at - 1][1])
        ):
            at -= 1
        by_sides.insert(at, entry)
    new = []
    for one, other, steps in by_sides:
        one_road, one_form = first_uses(pairs(new), one)
        other_road, other_form = first_uses(pairs(new), other)
        if one_form != other_form:
            steps = chain_back(road_told(new, one_road)) + steps + road_told(new, other_road)
            if order.before(one_form, other_form):
                one_form, other_form, steps = other_form, one_form, chain_back(steps)
            if len(steps) > 240 or len(one_form) > 60 or len(other_form) > 60:
                raise TooFar()
            new.append((one_form, other_form, steps))
    return by_sides, new


def passes(order, entries):
    done = 0
    while True:
        by_sides, entries = one_pass(order, entries)
        done += 1
        if pairs(by_sides) == pairs(entries):
            return done, entries
        if done == 20:
            raise TooFar()


class ByPacts(unittest.TestCase):
    ENTRIES = [("ba", "ab", [(0, 0, False)]), ("aab", "b", [(2, 1, True), (1, 0, False), (3, 2, True)])]

    def test_no_steps(self):
        self.assertEqual(by_pacts(self.ENTRIES, []), [])
        self.assertEqual(by_pacts([], []), [])

    def test_forth_at_the_place(self):
        self.assertEqual(by_pacts(self.ENTRIES, [(0, 0, True)]), [(0, 0, False)])
        self.assertEqual(by_pacts(self.ENTRIES, [(1, 4, True)]), [(2, 5, True), (1, 4, False), (3, 6, True)])

    def test_back_by_the_chain_back(self):
        self.assertEqual(by_pacts(self.ENTRIES, [(0, 3, False)]), [(0, 3, True)])
        self.assertEqual(by_pacts(self.ENTRIES, [(1, 4, False)]), [(3, 6, False), (1, 4, True), (2, 5, False)])

    def test_one_behind_the_other(self):
        self.assertEqual(by_pacts(self.ENTRIES, [(0, 2, True), (1, 1, False), (0, 0, True)]), [
            (0, 2, False), (3, 3, False), (1, 1, True), (2, 2, False), (0, 0, False),
        ])

    def test_an_entry_without_steps(self):
        self.assertEqual(by_pacts([("a", "a", [])], [(0, 3, True), (0, 2, False)]), [])

    def test_leads_where_the_rules_lead(self):
        pacts = [("abab", "a"), ("aba", "a"), ("bbb", "ab")]
        entries = thinned(Order("ab"), told(pacts))
        self.assertTrue(any(len(steps) > 2 for one, other, steps in entries))
        rules = pairs(entries)
        for word in words_up_to("ab", 5):
            system = system_by(Order("ab"), entries)
            road = system.road(word)
            form = system.shortest(word)
            self.assertEqual(walked(pacts, word, by_pacts(entries, road))[-1], form)
            turned = Chain(rules, word, road).turned().steps_told()
            self.assertEqual(walked(pacts, form, by_pacts(entries, turned))[-1], word)

    def test_lists_are_the_askers_own(self):
        entries = copy.deepcopy(self.ENTRIES)
        steps = [(1, 0, True)]
        chain = by_pacts(entries, steps)
        self.assertEqual((entries, steps), (self.ENTRIES, [(1, 0, True)]))
        chain.clear()
        self.assertEqual(entries, self.ENTRIES)
        chain = by_pacts(entries, steps)
        entries[1][2].clear()
        steps.clear()
        self.assertEqual(chain, self.ENTRIES[1][2])
        self.assertEqual(by_pacts(entries, [(1, 0, True), (0, 0, True)]), self.ENTRIES[0][2])
        self.assertEqual(chain, self.ENTRIES[1][2])

    def test_kinds(self):
        chain = by_pacts(self.ENTRIES, [(1, 0, True), (0, 0, False)])
        self.assertIs(type(chain), list)
        for step in chain:
            self.assertEqual([type(part) for part in step], [int, int, bool])
            self.assertIs(type(step), tuple)


class SystemBy(unittest.TestCase):
    def test_pairs_as_rules_in_their_order(self):
        order = FromRight("ab")
        entries = [("bb", "a", [(1, 0, True)]), ("ab", "ba", [(0, 0, True)]), ("bb", "", [])]
        system = system_by(order, entries)
        self.assertIs(type(system), System)
        self.assertEqual(system.rules_told(), [("bb", "a"), ("ab", "ba"), ("bb", "")])
        self.assertIs(system.order, order)

    def test_no_entries(self):
        self.assertEqual(system_by(Order("ab"), []).rules_told(), [])

    def test_not_turned(self):
        for entries, number in (
            ([("a", "b", [])], 0), ([("a", "a", [])], 0), ([("", "", [])], 0),
            ([("b", "a", []), ("bb", "", []), ("a", "aa", []), ("a", "b", [])], 2),
        ):
            with self.assertRaises(NotTurned) as caught:
                system_by(Order("ab"), entries)
            self.assertIs(type(caught.exception), NotTurned)
            self.assertEqual(caught.exception.number, number)

    def test_what_is_kept_is_its_own(self):
        entries = [("b", "a", [(0, 0, True)])]
        system = system_by(Order("ab"), entries)
        self.assertEqual(entries, [("b", "a", [(0, 0, True)])])
        entries.clear()
        self.assertEqual(system.rules_told(), [("b", "a")])


class Passes(unittest.TestCase):
    def test_no_entries(self):
        self.assertEqual(thinned(Order("ab"), []), [])

    def test_the_same_side_twice_is_dropped(self):
        self.assertEqual(thinned(Order("ab"), [("ab", "ab", [(0, 0, True)])]), [])
        self.assertEqual(thinned(Order("ab"), [("", "", [])]), [])
        entries = [("a", "a", []), ("b", "a", loop(3)), ("bb", "bb", [])]
        self.assertEqual(thinned(Order("ab"), entries), [("b", "a", loop(3))])

    def test_the_same_side_twice_is_dropped_with_whatever_sides_and_steps(self):
        entries = [("a" * 61, "a" * 61, []), ("b", "b", [(0, 0, True), (0, 0, False)] * 121)]
        self.assertEqual(thinned(Order("ab"), entries), [])

    def test_the_same_side_twice_has_no_road(self):
        self.assertEqual(thinned(Order("ab"), told([("b", "a"), ("b" * 41, "b" * 41)])), told([("b", "a")]))

    def test_turned_with_the_chain_back(self):
        entries = [("a", "bb", [(0, 0, True), (1, 3, False)])]
        self.assertEqual(thinned(Order("ab"), entries), [("bb", "a", [(1, 3, True), (0, 0, False)])])
        self.assertEqual(thinned(Order("ab"), [("", "b", [(4, 0, False)])]), [("b", "", [(4, 0, True)])])

    def test_turned_by_each_order(self):
        forth, behind = ("ab", "ba", [(0, 0, True)]), ("ba", "ab", [(0, 0, False)])
        for order, entry in (
            (Order("ab"), behind), (Order("ba"), forth), (FromRight("ab"), forth), (FromRight("ba"), behind),
            (ByWeights("ab", [2, 1]), behind), (ByWeights("ba", [2, 1]), forth),
        ):
            self.assertEqual(thinned(order, [forth]), [entry])
            self.assertEqual(thinned(order, [behind]), [entry])

    def test_the_same_two_sides_stay_as_they_stood(self):
        self.assertEqual(thinned(Order("ab"), [("b", "a", loop(3)), ("b", "a", loop(1))]), [("b", "a", loop(3))])
        self.assertEqual(thinned(Order("ab"), [("b", "a", loop(1)), ("b", "a", loop(3))]), [("b", "a", loop(1))])
        turned = ("a", "b", chain_back(loop(2)))
        self.assertEqual(thinned(Order("ab"), [turned, ("b", "a", loop(1))]), [("b", "a", loop(2))])
        self.assertEqual(thinned(Order("ab"), [("b", "a", loop(1)), turned]), [("b", "a", loop(1))])

    def test_sorted_by_first_sides(self):
        entries = told([("bbb", "a"), ("ca", ""), ("ab", "b"), ("cb", "b")])
        self.assertEqual(thinned(Order("abc"), entries), [entries[2], entries[1], entries[3], entries[0]])
        self.assertEqual(thinned(Order("cab"), entries), [entries[1], entries[3], entries[2], entries[0]])
        self.assertEqual(thinned(FromRight("abc"), entries), [entries[1], entries[2], entries[3], entries[0]])
        heavy = ByWeights("abc", [1, 2, 9])
        self.assertEqual(thinned(heavy, entries), [entries[2], entries[0], entries[1], entries[3]])

    def test_of_the_same_first_side_the_lesser_second_side_goes_first(self):
        # "c" is told twice: "c" leads to "a", so what is left of the other one is "b" and "a".
        entries = [("c", "b", [(0, 0, True)]), ("c", "a", [(1, 0, True)])]
        by_length = [("b", "a", [(0, 0, False), (1, 0, True)]), ("c", "a", [(1, 0, True)])]
        self.assertEqual(thinned(Order("abc"), entries), by_length)
        self.assertEqual(thinned(Order("abc"), entries[::-1]), by_length)
        other_way = [("a", "b", [(1, 0, False), (0, 0, True)]), ("c", "b", [(0, 0, True)])]
        self.assertEqual(thinned(Order("bac"), entries), other_way)

    def test_a_first_side_holds_another_entrys_first_side(self):
        entries = [("cab", "b", [(0, 0, True)]), ("ab", "c", [(1, 0, True)])]
        self.assertEqual(thinned(Order("abc"), entries), [
            ("ab", "c", [(1, 0, True)]), ("cc", "b", [(1, 1, False), (0, 0, True)]),
        ])

    def test_a_second_side_holds_another_entrys_first_side(self):
        entries = [("ccc", "aab", [(0, 0, True)]), ("ab", "c", [(1, 0, True)])]
        self.assertEqual(thinned(Order("abc"), entries), [
            ("ab", "c", [(1, 0, True)]), ("ccc", "ac", [(0, 0, True), (1, 1, True)]),
        ])

    def test_both_sides_hold_it(self):
        entries = [("babc", "abab", [(0, 0, True)]), ("ab", "c", [(1, 0, True), (2, 0, False)])]
        self.assertEqual(thinned(Order("abc"), entries), [
            ("ab", "c", [(1, 0, True), (2, 0, False)]),
            ("bcc", "cc", [
                (2, 1, True), (1, 1, False), (0, 0, True), (1, 0, True), (2, 0, False), (1, 1, True), (2, 1, False),
            ]),
        ])

    def test_forms_that_come_the_other_way_round(self):
        # "bbbb" leads to the empty word, which comes before "a".
        entries = [("bbbb", "a", [(0, 0, True)]), ("bb", "", [(1, 0, True)])]
        self.assertEqual(thinned(Order("ab"), entries), [
            ("a", "", [(0, 0, False), (1, 0, True), (1, 0, True)]), ("bb", "", [(1, 0, True)]),
        ])

    def test_forms_that_are_the_same(self):
        entries = told([("cc", "aab"), ("aab", "b"), ("cc", "b"), ("ab", "b")])
        self.assertEqual(thinned(Order("abc"), entries), [entries[3], entries[2]])

    def test_a_new_entry_is_put_at_the_end_until_the_next_pass(self):
        # "aba" is put in ahead of ("ab", "a"), which comes out of "abab": so "aba" waits for the second pass.
        entries = told([("abab", "a"), ("aba", "a")])
        self.assertEqual(one_pass(Order("ab"), entries)[1], [
            ("aba", "a", [(1, 0, True)]), ("ab", "a", [(1, 0, False), (0, 0, True)]),
        ])
        self.assertEqual(thinned(Order("ab"), entries), [
            ("aa", "a", [(0, 0, False), (1, 0, True), (1, 0, True)]),
            ("ab", "a", [(1, 0, False), (0, 0, True)]),
        ])

    def test_rules_are_numbered_as_they_stand_in_the_new_list(self):
        # In the first pass ("c", "") stands behind ("cc", ""): "cbcc" goes by "bcc" and then by "cc", not by "c" twice.
        entries = told([("ccc", ""), ("cbcc", ""), ("cc", "")])
        self.assertEqual(thinned(Order("abc"), entries), [
            ("b", "", [(2, 1, False), (0, 0, False), (2, 0, True), (1, 0, True)]),
            ("c", "", [(2, 0, False), (0, 0, True)]),
        ])

    def test_as_the_point_tells(self):
        words = words_up_to("ab", 3)
        sides = list(itertools.product(words, repeat=2))
        orders = [Order("ab"), FromRight("ab"), ByWeights("ba", [3, 1])]
        for number in range(6000):
            picked = [sides[number * step % len(sides)] for step in (1, 37, 101, 149)]
            order = orders[number % 3]
            entries = told(picked)
            with self.subTest(picked, order=number % 3):
                self.assertEqual(thinned(order, entries), passes(order, entries)[1])


class Bounds(unittest.TestCase):
    def assert_too_far(self, order, entries):
        with self.assertRaises(TooFar) as caught:
            thinned(order, entries)
        self.assertIs(type(caught.exception), TooFar)

    def test_40_uses_for_the_first_side(self):
        for size in (39, 40):
            self.assertEqual(thinned(Order("ab"), told([("b", "a"), ("b" * size, "")])), [
                ("b", "a", [(0, 0, True)]),
                ("a" * size, "", [(0, at, False) for at in range(size)][::-1] + [(1, 0, True)]),
            ])
        self.assert_too_far(Order("ab"), told([("b", "a"), ("b" * 41, "")]))

    def test_40_uses_for_the_second_side(self):
        order = ByWeights("abc", [1, 2, 1000])
        for size in (39, 40):
            self.assertEqual(thinned(order, told([("b", "a"), ("c", "b" * size)])), [
                ("b", "a", [(0, 0, True)]),
                ("c", "a" * size, [(1, 0, True)] + [(0, at, True) for at in range(size)]),
            ])
        self.assert_too_far(order, told([("b", "a"), ("c", "b" * 41)]))

    def test_40_uses_for_each_side(self):
        order = ByWeights("abc", [1, 2, 1000])
        entries = thinned(order, told([("b", "a"), ("c" + "b" * 40, "b" * 40)]))
        self.assertEqual(pairs(entries), [("b", "a"), ("c" + "a" * 40, "a" * 40)])
        self.assertEqual(len(entries[1][2]), 81)

    def test_41_uses_though_the_forms_are_the_same(self):
        entries = told([("b", "a"), ("b" * 41, "a" * 41)])
        self.assert_too_far(Order("ab"), entries)
        entries = told([("b", "a"), ("b" * 40, "a" * 40)])
        self.assertEqual(thinned(Order("ab"), entries), entries[:1])

    def test_a_road_that_is_too_far_in_a_second_pass(self):
        # ("b", "a") comes out of the longest entry, at the end of the first pass.
        for size, is_far in ((40, False), (41, True)):
            entries = told([("d" * 50, ""), ("b" * size, ""), ("d" * 50 + "b", "a")])
            with self.subTest(size):
                if is_far:
                    self.assert_too_far(Order("abcd"), entries)
                else:
                    self.assertEqual(pairs(thinned(Order("abcd"), entries)), [
                        ("b", "a"), ("a" * size, ""), ("d" * 50, ""),
                    ])

    def test_240_steps_of_an_entry_as_it_is(self):
        for size in (239, 240):
            self.assertEqual(thinned(Order("abc"), [("b", "a", loop(size))]), [("b", "a", loop(size))])
        self.assert_too_far(Order("abc"), [("b", "a", loop(241))])
        self.assert_too_far(Order("abc"), [("a", "b", chain_back(loop(241)))])

    def test_240_steps_of_all_three_parts(self):
        # 12 uses of the first side and 27 of the second one, with 6 steps each, and the entry's own.
        order = ByWeights("abcd", [1, 2, 3, 1000])
        for own, is_far in ((5, False), (6, False), (7, True)):
            entries = [("b", "a", loop(6)), ("d" + "b" * 12, "b" * 27, [(3, 0, True)] * own)]
            if is_far:
                self.assert_too_far(order, entries)
            else:
                told_ones = thinned(order, entries)
                self.assertEqual(pairs(told_ones), [("b", "a"), ("d" + "a" * 12, "a" * 27)])
                self.assertEqual(len(told_ones[1][2]), 39 * 6 + own)

    def test_241_steps_of_an_entry_that_is_gone(self):
        entries = [("b", "a", loop(1)), ("b", "a", loop(241)), ("bb", "ab", loop(242))]
        self.assertEqual(thinned(Order("abc"), entries), entries[:1])

    def test_60_letters_of_the_first_side(self):
        for size in (59, 60):
            entries = told([("b" * size, "")])
            self.assertEqual(thinned(Order("ab"), entries), entries)
        self.assert_too_far(Order("ab"), told([("b" * 61, "")]))
        self.assert_too_far(Order("ab"), told([("", "b" * 61)]))

    def test_60_letters_of_the_second_side(self):
        order = ByWeights("ab", [1, 1000])
        for size in (59, 60):
            entries = told([("b", "a" * size)])
            self.assertEqual(thinned(order, entries), entries)
        self.assert_too_far(order, told([("b", "a" * 61)]))

    def test_60_letters_behind_the_roads(self):
        order = ByWeights("abc", [1, 100, 10000])
        entries = told([("b", "a" * 10), ("c", "bbbbbb")])
        self.assertEqual(pairs(thinned(order, entries)), [("b", "a" * 10), ("c", "a" * 60)])
        self.assert_too_far(order, told([("b", "a" * 10), ("c", "bbbbbba")]))

    def test_61_letters_ahead_of_the_roads(self):
        entries = told([("bb", ""), ("b" * 61, "a")])
        self.assertEqual(pairs(thinned(Order("ab"), entries)), [("b", "a"), ("aa", "")])
        entries = told([("bb", ""), ("b" * 62, "")])
        self.assertEqual(thinned(Order("ab"), entries), entries[:1])

    def late(self, size):
        # Each pass but the last one brings just one more of these words down to "a": as many passes as words.
        words = [one + other for one in "fedcb" for other in "fedcb"][:size]
        return told([("aa", "a"), (words[0], "a")] + [(one + "a", other) for one, other in zip(words, words[1:])])

    def test_twenty_passes(self):
        order = Order("abcdef")
        for size in (1, 2, 19, 20):
            entries = self.late(size)
            self.assertEqual(passes(order, entries)[0], size)
            self.assertEqual(thinned(order, entries), passes(order, entries)[1])
            self.assertEqual(len(thinned(order, entries)), size + 1)
        self.assert_too_far(order, self.late(21))


class Thin(unittest.TestCase):
    # Told pacts of many kinds, with an order each.
    LISTS = [
        (Order("ab"), [("ab", ""), ("bbb", "a"), ("aa", "b")]),
        (Order("abc"), [("ab", "c"), ("bc", "a"), ("ca", "b"), ("cab", "bab"), ("", "ccc")]),
        (FromRight("abc"), [("abc", "ca"), ("a", "cc"), ("bab", "cab"), ("ba", "bb")]),
        (ByWeights("abc", [7, 2, 30]), [("c", "bab"), ("cca", "cbaaa"), ("bcccb", "")]),
        (ByWeights("ab", [1, 5]), [("b", "aaa"), ("bab", "ba"), ("", "aaaaaaa")]),
    ]

    def test_what_a_thinned_list_is(self):
        for order, pacts in self.LISTS:
            entries = thinned(order, told(pacts))
            self.assertEqual([entry[0] for entry in entries], order.ranked([entry[0] for entry in entries]))
            for at, (one, other, steps) in enumerate(entries):
                self.assertTrue(order.before(other, one))
                self.assertNotIn(one, other)
                for beside in entries[:at] + entries[at + 1:]:
                    self.assertNotIn(one, beside[0])
                    self.assertNotIn(one, beside[1])

    def test_chains_lead_by_the_told_pacts(self):
        for order, pacts in self.LISTS:
            for one, other, steps in thinned(order, told(pacts)):
                self.assertEqual(walked(pacts, one, steps)[-1], other)

    def test_the_told_pacts_hold_by_the_thinned_rules(self):
        # Each told pair is one of those that chains of the new rules lead to and fro.
        for order, pacts in self.LISTS:
            rules = pairs(thinned(order, told(pacts)))
            for one, other in pacts:
                same, waiting = {one}, [one]
                while waiting and other not in same:
                    word = waiting.pop(0)
                    for left, right in rules + [rule[::-1] for rule in rules]:
                        for place in range(len(word) + 1):
                            if word[place:].startswith(left):
                                behind = word[:place] + right + word[place + len(left):]
                                if behind not in same and len(behind) < 12:
                                    same.add(behind)
                                    waiting.append(behind)
                self.assertIn(other, same)

    def test_thinned_again_it_stays(self):
        for order, pacts in self.LISTS:
            entries = thinned(order, told(pacts))
            self.assertEqual(thinned(order, entries), entries)
            self.assertEqual(thinned(order, entries[::-1]), entries)

    def test_nothing_is_changed(self):
        for order, pacts in self.LISTS:
            entries = told(pacts)
            thinned(order, entries)
            self.assertEqual(entries, told(pacts))

    def test_lists_are_the_askers_own(self):
        entries = told([("b", "a"), ("cc", "a")])
        slim = thinned(Order("abc"), entries)
        self.assertEqual(slim, entries)
        for entry in slim:
            entry[2].append((9, 9, True))
        slim.clear()
        self.assertEqual(entries, told([("b", "a"), ("cc", "a")]))
        slim = thinned(Order("abc"), entries)
        for entry in entries:
            entry[2].clear()
        entries.clear()
        self.assertEqual(slim, told([("b", "a"), ("cc", "a")]))
        self.assertEqual(thinned(Order("abc"), entries), [])
        self.assertEqual(slim, told([("b", "a"), ("cc", "a")]))

    def test_chains_of_a_told_list_are_not_one_anothers(self):
        steps = [(0, 0, True)]
        slim = thinned(Order("abc"), [("b", "a", steps), ("cc", "a", steps)])
        slim[0][2].clear()
        self.assertEqual(slim[1][2], [(0, 0, True)])

    def test_kinds(self):
        for order, pacts in self.LISTS:
            slim = thinned(order, told(pacts))
            self.assertIs(type(slim), list)
            for entry in slim:
                self.assertIs(type(entry), tuple)
                self.assertEqual([type(part) for part in entry], [str, str, list])
                for step in entry[2]:
                    self.assertIs(type(step), tuple)
                    self.assertEqual([type(part) for part in step], [int, int, bool])


class Interface(unittest.TestCase):
    def test_arguments(self):
        named = {"by_pacts": "(entries, steps)", "system_by": "(order, entries)", "thinned": "(order, entries)"}
        for name, arguments in named.items():
            self.assertEqual(str(inspect.signature(getattr(module, name))), arguments)


if __name__ == "__main__":
    unittest.main()

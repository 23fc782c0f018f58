import inspect
import itertools
import unittest

from letterlaw import overlaps as module
from letterlaw.errors import TooFar
from letterlaw.orders import ByWeights, FromRight, Order
from letterlaw.overlaps import meets, overlaps, peak, unmet
from letterlaw.systems import System

MIRRORS = [("aa", ""), ("bb", ""), ("bab", "aba")]


def words_up_to(letters, length):
    return ["".join(word) for size in range(length + 1) for word in itertools.product(letters, repeat=size)]


def overlaps_by_the_point(rules):
    found = []
    for i, j in itertools.product(range(len(rules)), repeat=2):
        one = dict(enumerate(rules[i][0]))
        for place in sorted(one):
            other = dict(enumerate(rules[j][0], start=place))
            both = [at for at in one if at in other]
            if (i != j or place != 0) and all(one[at] == other[at] for at in both):
                found.append((i, j, place))
    return found


class Told(unittest.TestCase):
    def test_none(self):
        self.assertEqual(overlaps([]), [])
        self.assertEqual(overlaps([("ba", "ab")]), [])
        self.assertEqual(overlaps([("a", "")]), [])
        self.assertEqual(overlaps([("ab", ""), ("cd", "")]), [])

    def test_behind_the_end(self):
        self.assertEqual(overlaps([("ab", ""), ("bc", "")]), [(0, 1, 1)])
        self.assertEqual(overlaps([("bc", ""), ("ab", "")]), [(1, 0, 1)])
        self.assertEqual(overlaps([("ab", ""), ("ba", "")]), [(0, 1, 1), (1, 0, 1)])

    def test_with_the_end(self):
        self.assertEqual(overlaps([("cab", ""), ("ab", "")]), [(0, 1, 1)])

    def test_within(self):
        self.assertEqual(overlaps([("cabd", ""), ("ab", "")]), [(0, 1, 1)])
        self.assertEqual(overlaps([("ab", ""), ("cabd", "")]), [(1, 0, 1)])
        self.assertEqual(overlaps([("bab", ""), ("b", "")]), [(0, 0, 2), (0, 1, 0), (0, 1, 2), (1, 0, 0)])

    def test_begun_alike(self):
        self.assertEqual(overlaps([("abc", ""), ("ab", "")]), [(0, 1, 0), (1, 0, 0)])

    def test_the_same_left_side_both_ways(self):
        self.assertEqual(overlaps([("ab", "a"), ("ab", "b")]), [(0, 1, 0), (1, 0, 0)])
        self.assertEqual(overlaps([("ab", "a"), ("ab", "a")]), [(0, 1, 0), (1, 0, 0)])

    def test_a_rule_with_itself_not_at_0(self):
        self.assertEqual(overlaps([("aa", "")]), [(0, 0, 1)])
        self.assertEqual(overlaps([("aaa", "")]), [(0, 0, 1), (0, 0, 2)])
        self.assertEqual(overlaps([("aba", "")]), [(0, 0, 2)])

    def test_by_rising_i_then_j_then_place(self):
        self.assertEqual(overlaps([("aaa", ""), ("aa", "")]), [
            (0, 0, 1), (0, 0, 2), (0, 1, 0), (0, 1, 1), (0, 1, 2), (1, 0, 0), (1, 0, 1), (1, 1, 1),
        ])
        self.assertEqual(overlaps(MIRRORS), [(0, 0, 1), (1, 1, 1), (1, 2, 1), (2, 1, 2), (2, 2, 2)])

    def test_kinds(self):
        self.assertIs(type(overlaps([("aa", "")])[0]), tuple)

    def test_as_the_point_tells(self):
        lefts = words_up_to("ab", 4)[1:]
        for one, other in itertools.product(lefts, repeat=2):
            rules = [(one, ""), (other, "")]
            self.assertEqual(overlaps(rules), overlaps_by_the_point(rules))

    def test_many_long_rules(self):
        rules = [("a" * size, "") for size in range(60, 20, -1)]
        self.assertEqual(overlaps(rules), overlaps_by_the_point(rules))

    def test_nothing_is_changed_and_lists_are_new(self):
        rules = list(MIRRORS)
        told = overlaps(rules)
        kept = list(told)
        told.clear()
        self.assertEqual(rules, MIRRORS)
        self.assertEqual(overlaps(rules), kept)
        told = overlaps(rules)
        rules.clear()
        self.assertEqual(told, kept)


class Peaks(unittest.TestCase):
    def test_behind_the_end(self):
        self.assertEqual(peak([("ab", "c"), ("bcd", "a")], (0, 1, 1)), ("abcd", "ccd", "aa"))
        self.assertEqual(peak([("aba", "bb")], (0, 0, 2)), ("ababa", "bbba", "abbb"))
        self.assertEqual(peak([("aaa", "b")], (0, 0, 1)), ("aaaa", "ba", "ab"))

    def test_with_the_end(self):
        self.assertEqual(peak([("cab", "a"), ("ab", "b")], (0, 1, 1)), ("cab", "a", "cb"))

    def test_within(self):
        self.assertEqual(peak([("cabd", "d"), ("ab", "")], (0, 1, 1)), ("cabd", "d", "cd"))

    def test_at_0(self):
        self.assertEqual(peak([("abc", "c"), ("ab", "b")], (0, 1, 0)), ("abc", "c", "bc"))
        self.assertEqual(peak([("abc", "c"), ("ab", "b")], (1, 0, 0)), ("abc", "bc", "c"))
        self.assertEqual(peak([("ab", "a"), ("ab", "b")], (0, 1, 0)), ("ab", "a", "b"))
        self.assertEqual(peak([("ab", "a"), ("ab", "b")], (1, 0, 0)), ("ab", "b", "a"))

    def test_one_and_other_the_same(self):
        self.assertEqual(peak([("aa", "")], (0, 0, 1)), ("aaa", "a", "a"))
        self.assertEqual(peak([("ab", "a"), ("ab", "a")], (0, 1, 0)), ("ab", "a", "a"))

    def test_both_left_sides_stand_in_every_peak(self):
        lefts = words_up_to("ab", 4)[1:]
        for one, other in itertools.product(lefts, repeat=2):
            rules = [(one, "c"), (other, "dd")]
            for i, j, place in overlaps(rules):
                told = peak(rules, (i, j, place))
                self.assertIs(type(told), tuple)
                word = told[0]
                left, right = rules[i], rules[j]
                self.assertEqual(len(word), max(len(left[0]), place + len(right[0])))
                self.assertTrue(word.startswith(left[0]))
                self.assertTrue(word[place:].startswith(right[0]))
                self.assertEqual(told[1], left[1] + word[len(left[0]):])
                self.assertEqual(told[2], word[:place] + right[1] + word[place + len(right[0]):])

    def test_nothing_is_changed(self):
        rules = list(MIRRORS)
        peak(rules, (1, 2, 1))
        self.assertEqual(rules, MIRRORS)


class Meeting(unittest.TestCase):
    def assert_too_far(self, asked, *handed):
        with self.assertRaises(TooFar) as caught:
            asked(*handed)
        self.assertIs(type(caught.exception), TooFar)

    def test_meets(self):
        system = System(Order("ab"), MIRRORS)
        for overlap in overlaps(MIRRORS):
            self.assertIs(meets(system, overlap), True)
        self.assertEqual(unmet(system), [])

    def test_does_not_meet(self):
        system = System(Order("abc"), [("ab", "c"), ("bc", "a")])
        self.assertEqual(peak(system.rules_told(), (0, 1, 1)), ("abc", "cc", "aa"))
        self.assertIs(meets(system, (0, 1, 1)), False)
        self.assertEqual(unmet(system), [(0, 1, 1)])

    def test_those_that_do_not_meet_in_their_order(self):
        rules = [("bb", ""), ("aa", ""), ("bab", "b"), ("bb", "a")]
        system = System(Order("ab"), rules)
        told = unmet(system)
        self.assertEqual(told, [overlap for overlap in overlaps(rules) if not meets(system, overlap)])
        self.assertEqual(told, sorted(told))
        self.assertEqual(told, [
            (0, 2, 1), (0, 3, 0), (0, 3, 1), (2, 0, 2), (2, 3, 2), (3, 0, 0), (3, 0, 1), (3, 2, 1), (3, 3, 1),
        ])

    def test_the_same_left_side(self):
        system = System(Order("abc"), [("c", "a"), ("c", "b")])
        self.assertEqual(unmet(system), [(0, 1, 0), (1, 0, 0)])
        self.assertEqual(unmet(System(Order("abc"), [("c", "a"), ("c", "b"), ("b", "a")])), [])
        self.assertEqual(unmet(System(Order("abc"), [("c", "a"), ("c", "a")])), [])

    def test_a_left_side_within_another_one(self):
        system = System(Order("abc"), [("cbc", "a"), ("b", "")])
        self.assertEqual(unmet(system), [(0, 0, 2), (0, 1, 1)])

    def test_a_rule_that_overlaps_itself(self):
        self.assertEqual(unmet(System(Order("ab"), [("aa", "b")])), [(0, 0, 1)])
        self.assertEqual(unmet(System(Order("ab"), [("aa", "b"), ("ba", "ab")])), [])

    def test_no_rules(self):
        self.assertEqual(unmet(System(Order("ab"), [])), [])
        self.assertEqual(unmet(System(Order("ab"), []), 0), [])

    def test_so_many_uses(self):
        rules = [("cb", "aaa"), ("ba", "aaaa"), ("caaaa", "aa"), ("aaaa", "aa")]
        system = System(ByWeights("abc", [1, 10, 100]), rules)
        self.assertEqual(peak(rules, (0, 1, 1)), ("cba", "aaaa", "caaaa"))
        self.assertIs(meets(system, (0, 1, 1), 1), True)
        self.assert_too_far(meets, system, (0, 1, 1), 0)

    def test_each_of_both_roads(self):
        # One needs two uses and other none, and the other way round.
        long_one = System(Order("abcd"), [("dc", "bb"), ("cd", "a"), ("bb", "b"), ("bd", "a")])
        self.assertEqual(peak(long_one.rules_told(), (0, 1, 1)), ("dcd", "bbd", "da"))
        self.assert_too_far(meets, long_one, (0, 1, 1), 1)
        self.assertIs(meets(long_one, (0, 1, 1), 2), False)
        long_other = System(Order("abcd"), [("cd", "a"), ("dc", "bb"), ("bb", "ba"), ("ba", "a")])
        self.assertEqual(peak(long_other.rules_told(), (0, 1, 1)), ("cdc", "ac", "cbb"))
        self.assert_too_far(meets, long_other, (0, 1, 1), 1)
        self.assertIs(meets(long_other, (0, 1, 1), 2), False)

    def test_both_roads_are_gone_where_one_and_other_are_the_same(self):
        system = System(Order("ab"), [("aa", "a")])
        self.assertEqual(peak(system.rules_told(), (0, 0, 1)), ("aaa", "aa", "aa"))
        self.assert_too_far(meets, system, (0, 0, 1), 0)
        self.assert_too_far(unmet, system, 0)
        self.assertIs(meets(system, (0, 0, 1), 1), True)
        self.assertEqual(unmet(system, 1), [])

    def test_all_are_looked_at(self):
        # Overlap (0, 1, 0) does not meet; the roads of (2, 2, 1) need a use each.
        system = System(Order("abc"), [("c", "a"), ("c", "b"), ("bb", "b")])
        self.assertEqual(overlaps(system.rules_told()), [(0, 1, 0), (1, 0, 0), (2, 2, 1)])
        self.assert_too_far(unmet, system, 0)
        self.assertEqual(unmet(system, 1), [(0, 1, 0), (1, 0, 0)])
        self.assertIs(meets(system, (0, 1, 0), 0), False)

    def test_4000_uses_where_nothing_is_told(self):
        # d takes 1 + 60 + 3600 uses, c takes 1 + 60, b takes 1.
        order = ByWeights("abcdef", [1, 100, 10000, 900000, 1000000, 1000000])
        rules = [("d", "c" * 60), ("c", "b" * 60), ("b", "a")]
        for behind, is_far in (("b" * 34, False), ("b" * 35, True)):
            long_word = "d" + "c" * 5 + behind
            for word, other in ((long_word, ""), ("", long_word)):
                system = System(order, rules + [("efe", word), ("fefe", other)])
                overlap = (4, 3, 1)
                self.assertIn(overlap, overlaps(system.rules_told()))
                if is_far:
                    far = (meets, system, overlap) if other else (unmet, system)
                    self.assert_too_far(*far)
                    self.assertIs(meets(system, overlap, 4001), False)
                else:
                    self.assertIs(meets(system, overlap), False)
                    self.assertIn(overlap, unmet(system))

    def test_lists_told_are_the_askers_own(self):
        rules = [("ab", "c"), ("bc", "a")]
        system = System(Order("abc"), rules)
        unmet(system).clear()
        self.assertEqual(unmet(system), [(0, 1, 1)])
        self.assertEqual(system.rules_told(), rules)
        rules.clear()
        self.assertEqual(unmet(system), [(0, 1, 1)])
        self.assertIs(meets(system, (0, 1, 1)), False)

    def test_kinds(self):
        told = unmet(System(Order("ab"), [("aa", "b")]))
        self.assertIs(type(told), list)
        self.assertIs(type(told[0]), tuple)


class Whole(unittest.TestCase):
    # By each of the orders; that all overlaps meet is a test of its own.
    SYSTEMS = [
        System(Order("ab"), [("ba", "ab")]),
        System(Order("ab"), [("ab", "")]),
        System(Order("ab"), MIRRORS),
        System(Order("ba"), [("aaa", ""), ("ab", "b"), ("ba", "b")]),
        System(Order("ab"), [("aaa", "a"), ("b", "a")]),
        System(FromRight("ab"), [("ab", "ba"), ("aaa", "")]),
        System(ByWeights("ab", [1, 3]), [("b", "aa"), ("aaaa", "")]),
        System(ByWeights("ab", [2, 1]), [("a", "b"), ("bbb", "")]),
    ]

    def ends(self, system, word, known):
        # Every way of using rules, at whatever places and in whatever order.
        if word not in known:
            known[word] = set()
            for number, place in system.uses_of(word):
                left, right = system.rules_told()[number]
                behind = word[:place] + right + word[place + len(left):]
                self.assertTrue(system.order.before(behind, word))
                known[word] |= self.ends(system, behind, known)
            if system.is_shortest(word):
                known[word].add(word)
        return known[word]

    def same_words(self, system, words):
        # Each word with all that chains of the rules lead to within the told words.
        inside = set(words)
        near = {word: set() for word in words}
        for word in words:
            for number, place in system.uses_of(word):
                left, right = system.rules_told()[number]
                behind = word[:place] + right + word[place + len(left):]
                if behind in inside:
                    near[word].add(behind)
                    near[behind].add(word)
        for word in words:
            seen, waiting = {word}, [word]
            while waiting:
                fresh = near[waiting.pop()] - seen
                seen |= fresh
                waiting += sorted(fresh)
            yield word, seen

    def test_all_overlaps_meet(self):
        for system in self.SYSTEMS:
            with self.subTest(system.rules_told()):
                self.assertEqual(unmet(system), [])

    def test_whatever_uses_are_done_end_in_the_one_shortest_form(self):
        for system in self.SYSTEMS:
            known = {}
            for word in words_up_to("ab", 7):
                self.assertEqual(self.ends(system, word, known), {system.shortest(word)})

    def test_words_that_are_the_same_have_one_form_and_it_is_the_least(self):
        for system in self.SYSTEMS:
            words = words_up_to("ab", 6)
            for word, same in self.same_words(system, words):
                form = system.shortest(word)
                for other in sorted(same):
                    self.assertEqual(system.shortest(other), form)
                self.assertFalse(system.order.before(system.order.ranked(sorted(same))[0], form))

    def test_where_an_overlap_does_not_meet_there_are_two_ends(self):
        for rules in ([("aa", "b")], [("ab", "a"), ("ba", "b")], [("bab", ""), ("aa", "a")]):
            system = System(Order("ab"), rules)
            told = unmet(system)
            self.assertNotEqual(told, [])
            for overlap in told:
                self.assertGreater(len(self.ends(system, peak(rules, overlap)[0], {})), 1)


class Interface(unittest.TestCase):
    def test_arguments(self):
        told = {
            "overlaps": "(rules)", "peak": "(rules, overlap)", "meets": "(system, overlap, most=4000)",
            "unmet": "(system, most=4000)",
        }
        for name, arguments in told.items():
            self.assertEqual(str(inspect.signature(getattr(module, name))), arguments)


if __name__ == "__main__":
    unittest.main()

import copy
import inspect
import itertools
import unittest

from letterlaw import completing as module
from letterlaw.chains import walked
from letterlaw.completing import completed
from letterlaw.errors import TooFar
from letterlaw.orders import ByWeights, FromRight, Order
from letterlaw.overlaps import meets, overlaps, peak, unmet
from letterlaw.thinning import system_by, thinned

MIRRORS = [("aa", ""), ("bb", ""), ("bab", "aba")]


def words_up_to(letters, length):
    return ["".join(word) for size in range(length + 1) for word in itertools.product(letters, repeat=size)]


def told(pacts):
    return [(one, other, [(number, 0, True)]) for number, (one, other) in enumerate(pacts)]


def pairs(entries):
    return [(one, other) for one, other, steps in entries]


def fresh_entry(kept, overlap):
    i, j, place = overlap
    word, one, other = peak(pairs(kept), overlap)
    steps = [(number, at, not forth) for number, at, forth in reversed(kept[i][2])]
    return (one, other, steps + [(number, at + place, forth) for number, at, forth in kept[j][2]])


def stages(order, pacts, rounds, most=8):
    # Word for word as the point tells: why it ended, and all lists that were kept, from the first to the last.
    kept = [[]]
    fresh = told(pacts)
    while True:
        try:
            slim = thinned(order, fresh)
        except TooFar:
            return "far", kept
        if len(slim) > 12:
            return "many", kept
        if any(len(one) > 10 or len(other) > 10 for one, other, steps in slim):
            return "long", kept
        kept.append(slim)
        system = system_by(order, slim)
        try:
            lacking = [overlap for overlap in overlaps(pairs(slim)) if not meets(system, overlap, 40)]
        except TooFar:
            return "roads", kept
        if not lacking:
            return "whole", kept
        if rounds == 0:
            return "rounds", kept
        rounds -= 1
        fresh = slim + [fresh_entry(slim, overlap) for overlap in lacking[:most]]


class Rounds(unittest.TestCase):
    # An order, pacts, why it ends at last, and how many lists are kept up to then, the empty one among them.
    CASES = [
        (Order("ab"), [], "whole", 2),
        (Order("ab"), MIRRORS, "whole", 2),
        (FromRight("ab"), [("aa", "b")], "whole", 3),
        (ByWeights("ab", [30, 2]), [("", "bbab")], "whole", 4),
        (ByWeights("ba", [7, 1]), [("", "bbab")], "whole", 5),
        (FromRight("cab"), [("", "cb"), ("", "aac")], "whole", 6),
        (FromRight("cab"), [("", "acaa"), ("", "cb")], "whole", 7),
        (Order("abc"), [("cb", "abaa"), ("a", "bbcc"), ("ba", "baa")], "whole", 8),
        (ByWeights("ba", [7, 7]), [("ab", "bbb")], "rounds", 8),
        (ByWeights("ba", [1, 1]), [("baaa", "abaababa")], "long", 2),
        (Order("abc"), [("bbacb", "cba")], "long", 3),
        (FromRight("ab"), [("abba", "")], "long", 6),
        (FromRight("cab"), [("cca", "cacc")], "many", 4),
        (FromRight("ba"), [("", ""), ("abab", "ba")], "many", 5),
        (ByWeights("ab", [1, 1]), [("abbab", "a"), ("baab", "a")], "far", 3),
        (Order("abc"), [("ccc", "ca")], "far", 5),
    ]

    def test_what_the_cases_are(self):
        for order, pacts, why, count in self.CASES:
            with self.subTest(pacts):
                ended, kept = stages(order, pacts, 6)
                self.assertEqual((ended, len(kept)), (why, count))

    def test_each_number_of_rounds(self):
        # Each round brings one list more, until it is whole or stops: from then on nothing changes.
        for order, pacts, why, count in self.CASES:
            kept = stages(order, pacts, 6)[1]
            for rounds in range(7):
                with self.subTest(pacts, rounds=rounds):
                    whole = why == "whole" and rounds >= count - 2
                    self.assertEqual(completed(order, pacts, rounds), (whole, kept[min(rounds + 1, count - 1)]))

    def test_a_list_that_stops_it_is_not_kept(self):
        for order, pacts, why, count in self.CASES:
            if why in ("far", "many", "long"):
                whole, kept = completed(order, pacts, 6)
                self.assertIs(whole, False)
                system = system_by(order, kept)
                self.assertNotEqual(unmet(system, 40), [])

    def test_0_rounds(self):
        for order, pacts, why, count in self.CASES:
            whole, kept = completed(order, pacts, 0)
            self.assertEqual(kept, thinned(order, told(pacts)))
            self.assertIs(whole, unmet(system_by(order, kept)) == [])

    def test_the_last_round_left(self):
        self.assertEqual(completed(FromRight("ab"), [("aa", "b")], 0), (False, [("aa", "b", [(0, 0, True)])]))
        self.assertEqual(completed(FromRight("ab"), [("aa", "b")], 1), (True, [
            ("aa", "b", [(0, 0, True)]), ("ab", "ba", [(0, 1, False), (0, 0, True)]),
        ]))
        order, pacts = Order("abc"), [("cb", "abaa"), ("a", "bbcc"), ("ba", "baa")]
        self.assertIs(completed(order, pacts, 5)[0], False)
        self.assertIs(completed(order, pacts, 6)[0], True)

    def test_steps_lead_back_by_the_one_entry_and_on_by_the_other(self):
        pacts = [("ab", "c"), ("bc", "a")]
        self.assertEqual(completed(Order("abc"), pacts, 0), (False, told(pacts)))
        self.assertEqual(completed(Order("abc"), pacts, 1), (False, [
            ("ab", "c", [(0, 0, True)]), ("bc", "a", [(1, 0, True)]), ("cc", "aa", [(0, 0, False), (1, 1, True)]),
        ]))
        # From "baa" by the chain of "cc" back to "bcc" and on to "ac"; from "caa" by "ccc" to "aac".
        self.assertEqual(completed(Order("abc"), pacts, 2)[1][3:], [
            ("baa", "ac", [(1, 2, False), (0, 1, True), (1, 0, True)]),
            ("caa", "aac", [(1, 2, False), (0, 1, True), (0, 0, False), (1, 1, True)]),
        ])

    def test_as_the_point_tells(self):
        sides = list(itertools.product(words_up_to("ab", 3), repeat=2))
        orders = [Order("ab"), FromRight("ba"), ByWeights("ab", [1, 3])]
        for number in range(400):
            pacts = [sides[number * step % len(sides)] for step in (7, 43, 119)[number % 2:]]
            order = orders[number % 3]
            with self.subTest(pacts, order=number % 3):
                why, kept = stages(order, pacts, 3)
                self.assertEqual(completed(order, pacts, 3), (why == "whole", kept[-1]))


class Edges(unittest.TestCase):
    def test_no_pacts(self):
        for rounds in (0, 3, 6):
            self.assertEqual(completed(Order("ab"), [], rounds), (True, []))

    def test_a_word_and_itself(self):
        self.assertEqual(completed(Order("ab"), [("ab", "ab"), ("", "")], 2), (True, []))

    def test_a_letter_and_nothing(self):
        self.assertEqual(completed(Order("ab"), [("", "a"), ("b", "a")], 0), (True, [
            ("a", "", [(0, 0, False)]), ("b", "", [(1, 0, True), (0, 0, False)]),
        ]))

    def test_12_entries_and_13(self):
        # No two of these first sides overlap.
        pacts = [("f" + one + other + "e", "") for one in "abcd" for other in "abcd"]
        self.assertEqual(completed(Order("abcdef"), pacts[:11], 0), (True, told(pacts[:11])))
        self.assertEqual(completed(Order("abcdef"), pacts[:12], 0), (True, told(pacts[:12])))
        for rounds in (0, 6):
            self.assertEqual(completed(Order("abcdef"), pacts[:13], rounds), (False, []))

    def test_13_pacts_that_are_12_entries(self):
        pacts = [("f" + one + other + "e", "") for one in "abcd" for other in "abcd"][:12]
        self.assertEqual(completed(Order("abcdef"), pacts + pacts[:1], 0), (True, told(pacts)))

    def test_12_entries_in_a_round_and_13(self):
        kept = completed(Order("abc"), [("cb", "abaa"), ("a", "bbcc"), ("ba", "baa")], 6)[1]
        self.assertEqual(len(kept), 12)
        order, pacts = FromRight("cab"), [("cca", "cacc")]
        why, lists = stages(order, pacts, 2)
        lacking = unmet(system_by(order, lists[-1]), 40)
        self.assertEqual(why, "rounds")
        beyond = thinned(order, lists[-1] + [fresh_entry(lists[-1], overlap) for overlap in lacking[:8]])
        self.assertGreater(len(beyond), 12)
        self.assertEqual(completed(order, pacts, 3), (False, lists[-1]))

    def test_a_first_side_of_10_letters_and_of_11(self):
        for size in (7, 8):
            pacts = [("e" + "a" * size + "f", "")]
            self.assertEqual(completed(Order("abcdef"), pacts, 0), (True, told(pacts)))
        self.assertEqual(completed(Order("abcdef"), [("e" + "a" * 9 + "f", "")], 3), (False, []))

    def test_a_second_side_of_10_letters_and_of_11(self):
        order = ByWeights("ab", [1, 100])
        for size in (9, 10):
            pacts = [("b", "a" * size)]
            self.assertEqual(completed(order, pacts, 0), (True, told(pacts)))
        self.assertEqual(completed(order, [("b", "a" * 11)], 3), (False, []))

    def test_a_pact_of_11_letters_that_is_thinned_to_fewer(self):
        pacts = [("aa", ""), ("b" + "a" * 10, "a")]
        self.assertEqual(completed(Order("ab"), pacts, 0), (True, [
            ("b", "a", [(0, 1, False)] * 5 + [(1, 0, True)]), ("aa", "", [(0, 0, True)]),
        ]))

    def test_a_side_of_10_letters_in_a_round_and_of_11(self):
        # The first side grows by a letter with each overlap that is put in.
        order, pacts = Order("ab"), [("bb", "ba")]
        for rounds, count in ((0, 1), (1, 2), (2, 4), (3, 7)):
            rules = [("b" + "a" * size + "b", "b" + "a" * (size + 1)) for size in range(count)]
            whole, kept = completed(order, pacts, rounds)
            self.assertIs(whole, False)
            self.assertEqual(pairs(kept), rules)
        self.assertEqual(stages(order, pacts, 6)[0], "long")
        self.assertEqual(completed(order, pacts, 6), completed(order, pacts, 3))

    def test_pacts_that_are_too_far_to_be_thinned(self):
        # The nine "c" lead to "ab" nine times, and these to "a" and "b" apart: 45 uses.
        order = ByWeights("abcd", [1, 1, 3, 1000])
        pacts = [("ba", "ab"), ("c", "ab"), ("d", "c" * 9)]
        with self.assertRaises(TooFar):
            thinned(order, told(pacts))
        for rounds in (0, 1, 6):
            self.assertEqual(completed(order, pacts, rounds), (False, []))

    def test_roads_of_40_uses_and_of_41(self):
        # Both lists are whole, but for a road from the peak of "cd" and the "d" behind.
        order = ByWeights("abcdef", [1, 1, 100, 100, 1, 100])
        within = [("ba", "ab"), ("aab", ""), ("cd", "b" * 10), ("daaaae", "f"), ("cf", "b" * 8 + "e")]
        beyond = [("ba", "ab"), ("aab", "ab"), ("cd", "bbbbb"), ("daaaaaaae", "f"), ("cf", "abbbbbe")]
        for pacts, uses in ((within, 40), (beyond, 41)):
            entries = thinned(order, told(pacts))
            system = system_by(order, entries)
            self.assertEqual(unmet(system, uses), [])
            with self.assertRaises(TooFar):
                unmet(system, uses - 1)
            for rounds in (0, 3):
                self.assertEqual(completed(order, pacts, rounds), (uses == 40, entries))

    def test_more_than_eight_overlaps_that_do_not_meet(self):
        cases = [
            (Order("ab"), [("bbb", "ba")], False),
            (Order("abc"), [("cbb", "bcab"), ("aaac", "cba"), ("abbc", "a"), ("b", "bcc"), ("c", "aa")], True),
        ]
        for order, pacts, whole in cases:
            with self.subTest(pacts):
                answer = completed(order, pacts, 6)
                self.assertIs(answer[0], whole)
                for most in (7, 8, 9, 1000):
                    why, kept = stages(order, pacts, 6, most)
                    self.assertEqual((why == "whole", kept[-1]) == answer, most == 8)

    def test_eight_overlaps_that_do_not_meet(self):
        order, pacts = Order("abc"), [("ccc", "ca")]
        kept = completed(order, pacts, 1)[1]
        lacking = unmet(system_by(order, kept), 40)
        self.assertEqual(len(lacking), 8)
        fresh = kept + [fresh_entry(kept, overlap) for overlap in lacking]
        self.assertEqual(completed(order, pacts, 2)[1], thinned(order, fresh))


class Promise(unittest.TestCase):
    # Pacts that come to a whole list with six rounds or fewer.
    WHOLE = [
        (Order("ab"), MIRRORS),
        (Order("ab"), [("aaa", ""), ("bbb", ""), ("abab", "")]),
        (Order("ab"), [("aa", "a"), ("bb", "b"), ("ab", "ba")]),
        (FromRight("ab"), [("aab", "ba"), ("bb", "")]),
        (FromRight("ab"), [("aa", "b")]),
        (ByWeights("ab", [1, 5]), [("b", "aa"), ("aaaaa", "")]),
        (ByWeights("ba", [7, 1]), [("", "bbab")]),
        (Order("abc"), [("ab", ""), ("ba", ""), ("c", "aa"), ("ccc", "")]),
        (Order("cab"), [("ac", "ca"), ("bc", "cb"), ("bb", ""), ("aba", "bab"), ("cc", "")]),
    ]

    def test_all_are_whole(self):
        for order, pacts in self.WHOLE:
            with self.subTest(pacts):
                whole, kept = completed(order, pacts, 6)
                self.assertIs(whole, True)
                self.assertEqual(unmet(system_by(order, kept)), [])

    def test_each_rule_comes_with_its_own_chain_of_the_told_pacts(self):
        for order, pacts in self.WHOLE + [case[:2] for case in Rounds.CASES]:
            for rounds in range(4):
                for one, other, steps in completed(order, pacts, rounds)[1]:
                    self.assertEqual(walked(pacts, one, steps)[-1], other)

    def test_what_is_kept_is_thin(self):
        for order, pacts in self.WHOLE + [case[:2] for case in Rounds.CASES]:
            for rounds in range(4):
                kept = completed(order, pacts, rounds)[1]
                self.assertEqual(thinned(order, kept), kept)
                self.assertLessEqual(len(kept), 12)
                self.assertTrue(all(len(one) <= 10 and len(other) <= 10 for one, other, steps in kept))

    def near(self, pacts, words):
        # For each word those that one use of a pact, forth or back, leads to.
        inside = set(words)
        found = {word: set() for word in words}
        for word in words:
            for one, other in pacts + [pact[::-1] for pact in pacts]:
                for place in range(len(word) + 1):
                    if word[place:].startswith(one):
                        behind = word[:place] + other + word[place + len(one):]
                        if behind in inside:
                            found[word].add(behind)
        return found

    def test_the_shortest_form_is_the_least_of_all_that_are_the_same(self):
        for order, pacts in self.WHOLE:
            system = system_by(order, completed(order, pacts, 6)[1])
            words = words_up_to(order.letters, 7 if len(order.letters) == 2 else 5)
            near = self.near(pacts, words)
            seen = set()
            for word in words:
                same, waiting = {word}, [word]
                while waiting and word not in seen:
                    fresh = near[waiting.pop()] - same
                    same |= fresh
                    waiting += sorted(fresh)
                seen |= same
                form = system.shortest(word)
                self.assertEqual({system.shortest(other) for other in same}, {form})
                self.assertFalse(order.before(order.ranked(sorted(same))[0], form))

    def test_whatever_way_the_pacts_are_told(self):
        for order, pacts in self.WHOLE:
            whole = pairs(completed(order, pacts, 6)[1])
            turned = [(other, one) for one, other in pacts]
            ways = [pacts[::-1], turned, pacts + pacts, pacts + turned, turned[1:] + turned[:1], whole, whole[::-1]]
            ways += [pacts + [("ab" + one + "a", "ab" + other + "a") for one, other in pacts[:1]], pacts + whole]
            ways += [list(way) for way in itertools.permutations(pacts)]
            for way in ways:
                with self.subTest(pacts, way=way):
                    answer = completed(order, way, 6)
                    self.assertIs(answer[0], True)
                    self.assertEqual(pairs(answer[1]), whole)

    def test_a_whole_list_is_whole_at_once(self):
        for order, pacts in self.WHOLE:
            whole = pairs(completed(order, pacts, 6)[1])
            self.assertEqual(completed(order, whole, 0), (True, told(whole)))

    def test_pacts_that_are_not_the_same_have_another_list(self):
        lists = [pairs(completed(Order("ab"), pacts, 6)[1]) for pacts in (
            [("ab", "")], [("ba", "")], [("ab", ""), ("ba", "")], [("aa", "")], [("ab", "ba")],
        )]
        for one, other in itertools.combinations(lists, 2):
            self.assertNotEqual(one, other)


class Lists(unittest.TestCase):
    def test_nothing_is_changed(self):
        for order, pacts, why, count in Rounds.CASES:
            handed = list(pacts)
            completed(order, handed, 3)
            self.assertEqual(handed, pacts)

    def test_lists_are_the_askers_own(self):
        order, pacts = Order("ab"), [("aa", "b"), ("bb", "")]
        answer = completed(order, pacts, 2)
        kept = copy.deepcopy(answer)
        for entry in answer[1]:
            entry[2].append((9, 9, True))
        answer[1].clear()
        self.assertEqual(completed(order, pacts, 2), kept)
        answer = completed(order, pacts, 2)
        pacts.clear()
        self.assertEqual(answer, kept)
        self.assertEqual(completed(order, pacts, 2), (True, []))
        self.assertEqual(answer, kept)

    def test_chains_are_not_one_anothers(self):
        for order, pacts, why, count in Rounds.CASES:
            kept = completed(order, pacts, 4)[1]
            others = copy.deepcopy(kept)
            for at, entry in enumerate(kept):
                entry[2].clear()
                self.assertEqual(kept[at + 1:], others[at + 1:])

    def test_kinds(self):
        for order, pacts, why, count in Rounds.CASES:
            for rounds in (0, 6):
                answer = completed(order, pacts, rounds)
                self.assertIs(type(answer), tuple)
                self.assertEqual([type(part) for part in answer], [bool, list])
                for entry in answer[1]:
                    self.assertIs(type(entry), tuple)
                    self.assertEqual([type(part) for part in entry], [str, str, list])
                    for step in entry[2]:
                        self.assertIs(type(step), tuple)
                        self.assertEqual([type(part) for part in step], [int, int, bool])


class Interface(unittest.TestCase):
    def test_arguments(self):
        self.assertEqual(str(inspect.signature(module.completed)), "(order, pacts, rounds)")


if __name__ == "__main__":
    unittest.main()

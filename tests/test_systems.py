import inspect
import itertools
import unittest

from letterlaw.chains import walked
from letterlaw.errors import NotTurned, TooFar
from letterlaw.orders import ByWeights, FromRight, Order
from letterlaw.systems import System
from letterlaw.words import places

SORTING = [("ba", "ab")]
MIRRORS = [("aa", ""), ("bb", ""), ("bab", "aba")]


def words_up_to(letters, length):
    return ["".join(word) for size in range(length + 1) for word in itertools.product(letters, repeat=size)]


def uses_by_the_point(rules, word):
    found = [(place, number) for number, rule in enumerate(rules) for place in places(word, rule[0])]
    return [(number, place) for place, number in sorted(found)]


def road_by_the_point(rules, word):
    steps = []
    while uses_by_the_point(rules, word):
        number, place = uses_by_the_point(rules, word)[0]
        steps.append((number, place, True))
        word = word[:place] + rules[number][1] + word[place + len(rules[number][0]):]
    return steps, word


class Making(unittest.TestCase):
    def number_refused(self, order, rules):
        with self.assertRaises(NotTurned) as caught:
            System(order, rules)
        self.assertIs(type(caught.exception), NotTurned)
        return caught.exception.number

    def test_values(self):
        for order in (Order("ab"), FromRight("ab"), ByWeights("ab", [1, 2])):
            system = System(order, [("aa", "a"), ("bb", "")])
            self.assertIs(system.order, order)
            self.assertEqual(system.rules_told(), [("aa", "a"), ("bb", "")])

    def test_rules_stay_in_their_order_and_as_often(self):
        rules = [("bb", "a"), ("aa", ""), ("bb", "a"), ("bb", "b")]
        self.assertEqual(System(Order("ab"), rules).rules_told(), rules)

    def test_pair_that_is_not_turned(self):
        self.assertEqual(self.number_refused(Order("ab"), [("ab", "ba")]), 0)
        self.assertEqual(self.number_refused(Order("ab"), [("a", "aa")]), 0)
        self.assertEqual(self.number_refused(Order("ab"), [("", "a")]), 0)
        self.assertEqual(self.number_refused(FromRight("ab"), [("ba", "ab")]), 0)
        self.assertEqual(self.number_refused(ByWeights("ab", [1, 3]), [("aa", "b")]), 0)
        self.assertEqual(self.number_refused(Order("ba"), SORTING), 0)

    def test_pair_of_one_word_twice(self):
        self.assertEqual(self.number_refused(Order("ab"), [("ab", "ab")]), 0)
        self.assertEqual(self.number_refused(Order("ab"), [("", "")]), 0)
        self.assertEqual(self.number_refused(Order("ab"), [("b", "a"), ("a", "a")]), 1)

    def test_the_first_such_pair(self):
        good = ("ba", "ab")
        for ahead in range(4):
            rules = [good] * ahead + [("ab", "ba"), good, ("a", "a")]
            self.assertEqual(self.number_refused(Order("ab"), rules), ahead)

    def test_the_order_decides(self):
        self.assertEqual(System(Order("ab"), [("ba", "ab")]).shortest("bab"), "abb")
        self.assertEqual(System(FromRight("ab"), [("ab", "ba")]).shortest("abb"), "bba")
        self.assertEqual(System(ByWeights("ab", [1, 3]), [("b", "aa")]).shortest("bb"), "aaaa")

    def test_lists_handed_in_are_not_kept(self):
        rules = list(SORTING)
        system = System(Order("ab"), rules)
        self.assertEqual(rules, SORTING)
        rules.append(("b", ""))
        rules[0] = ("a", "")
        self.assertEqual(system.rules_told(), SORTING)
        self.assertEqual(system.shortest("baa"), "aab")
        self.assertEqual(system.uses_of("baa"), [(0, 0)])
        rules.clear()
        self.assertEqual(system.road("baa"), [(0, 0, True), (0, 1, True)])

    def test_lists_told_are_the_askers_own(self):
        system = System(Order("ab"), SORTING)
        system.rules_told().clear()
        system.rules_told().append(("b", ""))
        system.uses_of("ba").clear()
        system.road("ba").append((9, 9, True))
        self.assertEqual(system.rules_told(), SORTING)
        self.assertEqual(system.uses_of("ba"), [(0, 0)])
        self.assertEqual(system.road("ba"), [(0, 0, True)])
        self.assertEqual(system.shortest("ba"), "ab")

    def test_no_rules(self):
        system = System(Order("ab"), [])
        self.assertEqual(system.rules_told(), [])
        for word in ("", "ab", "b" * 60):
            self.assertEqual(system.uses_of(word), [])
            self.assertIsNone(system.first_use(word))
            self.assertIs(system.is_shortest(word), True)
            self.assertEqual(system.road(word, 0), [])
            self.assertEqual(system.shortest(word), word)


class Uses(unittest.TestCase):
    def test_by_rising_place_then_number(self):
        system = System(Order("ab"), [("bb", "b"), ("ab", "a"), ("abb", ""), ("b", "a")])
        self.assertEqual(system.uses_of("abb"), [(1, 0), (2, 0), (0, 1), (3, 1), (3, 2)])
        self.assertEqual(system.first_use("abb"), (1, 0))
        self.assertEqual(system.uses_of("bb"), [(0, 0), (3, 0), (3, 1)])
        self.assertEqual(system.first_use("bb"), (0, 0))

    def test_none(self):
        system = System(Order("ab"), MIRRORS)
        for word in ("", "a", "b", "ab", "aba"):
            self.assertEqual(system.uses_of(word), [])
            self.assertIsNone(system.first_use(word))
            self.assertIs(system.is_shortest(word), True)

    def test_the_least_place_goes_ahead_of_the_least_number(self):
        system = System(Order("ab"), [("bb", ""), ("aa", "")])
        self.assertEqual(system.first_use("baabb"), (1, 1))
        self.assertEqual(system.first_use("babbaa"), (0, 2))

    def test_of_several_at_one_place_the_least_number(self):
        self.assertEqual(System(Order("ab"), [("ab", "a"), ("ab", "b")]).first_use("bab"), (0, 1))
        self.assertEqual(System(Order("ab"), [("abb", "a"), ("ab", "b")]).first_use("babb"), (0, 1))
        self.assertEqual(System(Order("ab"), [("ab", "a"), ("abb", "b")]).first_use("babb"), (0, 1))
        self.assertEqual(System(Order("ab"), [("ab", "a"), ("abb", "b")]).uses_of("babb"), [(0, 1), (1, 1)])

    def test_at_the_end_and_not_beyond_it(self):
        system = System(Order("ab"), [("abb", "a")])
        self.assertEqual(system.uses_of("aabb"), [(0, 1)])
        self.assertEqual(system.uses_of("aab"), [])
        self.assertEqual(system.first_use("aabb"), (0, 1))
        self.assertIsNone(system.first_use("aab"))

    def test_kinds(self):
        system = System(Order("ab"), SORTING)
        self.assertIs(type(system.first_use("ba")), tuple)
        self.assertIs(type(system.uses_of("ba")[0]), tuple)
        self.assertIs(system.is_shortest("ba"), False)

    def test_as_the_point_tells(self):
        left_sides = words_up_to("ab", 3)[1:]
        for lefts in itertools.product(left_sides, repeat=2):
            rules = [(left, "") for left in lefts]
            system = System(Order("ab"), rules)
            for word in ("", "a", "abba", "babaab", "aabbab"):
                told = uses_by_the_point(rules, word)
                self.assertEqual(system.uses_of(word), told)
                self.assertEqual(system.first_use(word), told[0] if told else None)
                self.assertEqual(system.is_shortest(word), not told)

    def test_in_long_words(self):
        rules = [("bbbc", ""), ("ca", ""), ("bc", "b"), ("c", "b")]
        system = System(Order("abc"), rules)
        for ahead in itertools.chain(range(120, 135), range(376, 390), range(890, 900)):
            for part in ("c", "bc", "bbc", "bbbc", "ca", "cca", "bbbbca"):
                for behind in ("", "a" * 5, "b" * 300):
                    word = "a" * ahead + part + behind
                    told = uses_by_the_point(rules, word)
                    self.assertEqual(system.first_use(word), told[0])
                    self.assertEqual(system.uses_of(word), told)


class Roads(unittest.TestCase):
    def assert_too_far(self, asked, *handed):
        with self.assertRaises(TooFar) as caught:
            asked(*handed)
        self.assertIs(type(caught.exception), TooFar)

    def test_first_uses(self):
        system = System(Order("ab"), SORTING)
        self.assertEqual(system.road("bba"), [(0, 1, True), (0, 0, True)])
        self.assertEqual(system.shortest("bba"), "abb")
        system = System(Order("ab"), MIRRORS)
        self.assertEqual(system.road("babab"), [(2, 0, True), (0, 2, True), (1, 1, True)])
        self.assertEqual(system.shortest("babab"), "a")

    def test_the_least_number_leads(self):
        self.assertEqual(System(Order("ab"), [("ab", "a"), ("ab", "b")]).shortest("ab"), "a")
        self.assertEqual(System(Order("ab"), [("ab", "b"), ("ab", "a")]).shortest("ab"), "b")

    def test_the_least_place_leads(self):
        self.assertEqual(System(Order("ab"), [("ba", ""), ("ab", "")]).shortest("aba"), "a")
        self.assertEqual(System(Order("ab"), [("aba", "b"), ("bb", "a")]).road("babab"), [(0, 1, True), (1, 0, True)])

    def test_a_use_ahead_of_the_last_one(self):
        rules = [("bbb", ""), ("ca", "b"), ("aab", "")]
        system = System(Order("abc"), rules)
        self.assertEqual(system.road("aabbcac"), [(2, 0, True), (1, 1, True)])
        self.assertEqual(system.road("abbcac"), [(1, 3, True), (0, 1, True)])
        self.assertEqual(system.shortest("abbcac"), "ac")

    def test_shortest_already(self):
        system = System(Order("ab"), MIRRORS)
        for word in ("", "a", "ab", "aba"):
            self.assertEqual(system.road(word), [])
            self.assertEqual(system.road(word, 0), [])
            self.assertEqual(system.shortest(word), word)

    def test_to_the_empty_word(self):
        system = System(Order("ab"), MIRRORS)
        self.assertEqual(system.shortest("abba"), "")
        self.assertEqual(system.shortest("a" * 60), "")

    def test_kinds(self):
        step = System(Order("ab"), SORTING).road("ba")[0]
        self.assertIs(type(step), tuple)
        self.assertIs(step[2], True)

    def test_a_chain_of_the_rules(self):
        for rules in (SORTING, MIRRORS, [("ab", ""), ("ba", "a")]):
            system = System(Order("ab"), rules)
            for word in words_up_to("ab", 7):
                words = walked(rules, word, system.road(word))
                self.assertEqual(words[-1], system.shortest(word))
                self.assertTrue(system.is_shortest(words[-1]))
                for one, other in zip(words, words[1:]):
                    self.assertTrue(system.order.before(other, one))

    def test_as_the_point_tells(self):
        pairs = itertools.permutations(words_up_to("ab", 2), 2)
        rules_of_two = [pair for pair in pairs if Order("ab").before(pair[1], pair[0])]
        for rules in itertools.product(rules_of_two, repeat=2):
            system = System(Order("ab"), list(rules))
            for word in ("abba", "babaab", "bbabab"):
                steps, form = road_by_the_point(rules, word)
                self.assertEqual(system.road(word), steps)
                self.assertEqual(system.shortest(word), form)

    def test_long_words_as_the_point_tells(self):
        rules = [("cb", "b"), ("c", "b" * 30), ("bba", "a"), ("bbbbb", "ab")]
        system = System(ByWeights("abc", [1, 2, 1000]), rules)
        for word in ("c" * 20, "cbca" * 6, "ab" * 20 + "cca" * 5):
            steps, form = road_by_the_point(rules, word)
            self.assertEqual(system.road(word), steps)
            self.assertEqual(system.shortest(word), form)

    def test_so_many_uses(self):
        system = System(Order("ab"), SORTING)
        self.assert_too_far(system.road, "ba", 0)
        self.assertEqual(system.road("ba", 1), [(0, 0, True)])
        for uses in range(1, 8):
            word = "b" * uses + "a"
            self.assertEqual(len(system.road(word, uses)), uses)
            self.assertEqual(len(system.road(word, uses + 1)), uses)
            self.assertEqual(len(system.road(word, most=10 ** 59)), uses)
            self.assert_too_far(system.road, word, uses - 1)

    def test_a_refusal_changes_nothing(self):
        system = System(Order("ab"), SORTING)
        self.assert_too_far(system.road, "bba", 1)
        self.assertEqual(system.road("bba"), [(0, 1, True), (0, 0, True)])

    def test_4000_uses_where_nothing_is_told(self):
        rules = [("d", "c" * 60), ("c", "b" * 60), ("b", "a")]
        system = System(ByWeights("abcd", [1, 100, 10000, 1000000]), rules)
        # d takes 1 + 60 + 3600 uses, c takes 1 + 60, b takes 1.
        word = "d" + "c" * 5 + "b" * 34
        road = system.road(word)
        self.assertEqual(len(road), 4000)
        self.assertEqual(system.shortest(word), "a" * (3600 + 300 + 34))
        self.assert_too_far(system.road, word, 3999)
        self.assert_too_far(system.road, word + "b")
        self.assert_too_far(system.shortest, word + "b")
        self.assertEqual(len(system.road(word + "b", 4001)), 4001)


class Interface(unittest.TestCase):
    def test_arguments(self):
        self.assertEqual(str(inspect.signature(System)), "(order, rules)")
        system = System(Order("a"), [])
        told = {
            "rules_told": "()", "uses_of": "(word)", "first_use": "(word)", "is_shortest": "(word)",
            "road": "(word, most=4000)", "shortest": "(word)",
        }
        for name, arguments in told.items():
            self.assertEqual(str(inspect.signature(getattr(system, name))), arguments)


if __name__ == "__main__":
    unittest.main()

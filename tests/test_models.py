import inspect
import itertools
import unittest

from letterlaw import models as module
from letterlaw.completing import completed
from letterlaw.errors import TooFar, TooMany
from letterlaw.models import shortest_words, world_of
from letterlaw.orders import ByWeights, FromRight, Order
from letterlaw.overlaps import unmet
from letterlaw.systems import System
from letterlaw.thinning import system_by
from letterlaw.worlds import World

MIRRORS = [("aa", ""), ("bb", ""), ("bab", "aba")]
# A use for "a", 61 for "b", 3,661 for "c"; "d" is put in by the tests.
FAR = [("a", ""), ("b", "a" * 60), ("c", "b" * 60)]


def words_up_to(letters, length):
    return ["".join(word) for size in range(length + 1) for word in itertools.product(letters, repeat=size)]


def circle(size):
    # Just so many shortest words: "", "a", "aa" and so on.
    return System(Order("a"), [("a" * size, "")])


def shortest_by_the_point(letters, rules, length):
    return [word for word in words_up_to(letters, length) if not any(left in word for left, right in rules)]


def form_by_the_point(rules, word):
    while True:
        uses = [
            (place, number) for place in range(len(word)) for number, (left, right) in enumerate(rules)
            if word[place:].startswith(left)
        ]
        if not uses:
            return word
        place, number = min(uses)
        left, right = rules[number]
        word = word[:place] + right + word[place + len(left):]


class Words(unittest.TestCase):
    def refused(self, *arguments):
        with self.assertRaises(TooMany) as caught:
            shortest_words(*arguments)
        self.assertIs(type(caught.exception), TooMany)

    def test_ordinary(self):
        self.assertEqual(shortest_words(System(Order("ab"), MIRRORS)), ["", "a", "b", "ab", "ba", "aba"])
        self.assertEqual(shortest_words(System(Order("ab"), [("aa", "a"), ("b", "")])), ["", "a"])
        self.assertEqual(shortest_words(circle(4)), ["", "a", "aa", "aaa"])

    def test_without_rules(self):
        for letters in ("a", "ab", "fedcba"):
            for most in (1, 2, 8, 29, 30):
                self.refused(System(Order(letters), []), most)
            self.refused(System(Order(letters), []))

    def test_the_empty_word_alone(self):
        system = System(Order("ab"), [("a", ""), ("b", "a")])
        for most in (1, 2, 8, 30):
            self.assertEqual(shortest_words(system, most), [""])
        self.assertEqual(shortest_words(system), [""])

    def test_just_as_many_as_are_allowed_and_one_more(self):
        for most in range(1, 31):
            for size in range(1, most + 1):
                self.assertEqual(shortest_words(circle(size), most), ["a" * length for length in range(size)])
            self.refused(circle(most + 1), most)
            self.refused(circle(most + 2), most)

    def test_eight_where_nothing_is_told(self):
        self.assertEqual(len(shortest_words(circle(8))), 8)
        self.refused(circle(9))

    def test_one_more_in_the_midst_of_a_length(self):
        rules = [("".join(word), "") for word in itertools.product("ab", repeat=3)]
        system = System(Order("ab"), rules)
        self.assertEqual(shortest_words(system, 7), ["", "a", "b", "aa", "ab", "ba", "bb"])
        for most in range(1, 7):
            self.refused(system, most)

    def test_by_length_and_then_by_the_letters_whatever_the_order_is(self):
        told = ["", "b", "a", "bb", "ba", "ab", "aa"]
        rules = [("".join(word), "") for word in itertools.product("ab", repeat=3)]
        for order in (Order("ba"), FromRight("ba"), ByWeights("ba", [5, 1]), ByWeights("ba", [1, 9])):
            self.assertEqual(shortest_words(System(order, rules)), told)
        self.assertNotEqual(FromRight("ba").ranked(told), told)
        self.assertNotEqual(ByWeights("ba", [5, 1]).ranked(told), told)

    def test_six_letters_in_their_own_order(self):
        rules = [(one + other, "") for one in "abcdef" for other in "abcdef"]
        self.assertEqual(shortest_words(System(Order("cafdeb"), rules)), ["", "c", "a", "f", "d", "e", "b"])

    def test_left_sides_count_wherever_they_stand(self):
        # "ab" stands at the end of a longer word, "bbb" ends no shortest one.
        system = System(Order("ab"), [("ab", "a"), ("bbb", ""), ("aa", "")])
        self.assertEqual(shortest_words(system), ["", "a", "b", "ba", "bb", "bba"])

    def test_rules_that_do_not_meet(self):
        system = System(Order("ab"), [("aa", "b"), ("ab", ""), ("bb", "")])
        self.assertNotEqual(unmet(system), [])
        self.assertEqual(shortest_words(system), ["", "a", "b", "ba"])

    def test_as_the_point_tells(self):
        left = [word for word in words_up_to("ab", 3) if word]
        for number in range(300):
            rules = [(left[number * step % len(left)], "") for step in (3, 5, 11, 13, 1)]
            by_length = shortest_by_the_point("ba", rules, 7)
            # With left sides of at most three letters there is no end where there is a word of seven.
            endless = len(by_length[-1]) == 7
            for order in (Order("ba"), FromRight("ba")):
                for most in (3, 8, 15):
                    if endless or len(by_length) > most:
                        self.refused(System(order, rules), most)
                    else:
                        self.assertEqual(shortest_words(System(order, rules), most), by_length)

    def test_long_sides(self):
        self.assertEqual(shortest_words(System(Order("ab"), [("b", ""), ("a" * 30, "a")]), 30)[-1], "a" * 29)
        self.refused(System(Order("ab"), [("b", ""), ("a" * 31, "a")]), 30)
        self.refused(System(Order("ab"), [("b", ""), ("a" * 60, "a")]), 30)


class Worlds(unittest.TestCase):
    def refused(self, refusal, system):
        with self.assertRaises(refusal) as caught:
            world_of(system)
        self.assertIs(type(caught.exception), refusal)

    def test_ordinary(self):
        world = world_of(System(Order("ab"), MIRRORS))
        self.assertIs(type(world), World)
        self.assertEqual(world.letters, "ab")
        # The rooms are "", "a", "b", "ab", "ba", "aba".
        self.assertEqual(world.table_told(), [[1, 2], [0, 3], [4, 0], [5, 1], [2, 5], [3, 4]])

    def test_one_room(self):
        self.assertEqual(world_of(System(Order("ab"), [("a", ""), ("b", "")])).table_told(), [[0, 0]])

    def test_letters_in_their_own_order(self):
        world = world_of(System(Order("ba"), [("b", ""), ("aa", "a")]))
        self.assertEqual(world.letters, "ba")
        self.assertEqual(world.table_told(), [[0, 1], [1, 1]])

    def test_eight_rooms_and_nine(self):
        self.assertEqual(world_of(circle(7)).rooms(), 7)
        world = world_of(circle(8))
        self.assertEqual(world.table_told(), [[1], [2], [3], [4], [5], [6], [7], [0]])
        self.refused(TooMany, circle(9))
        self.refused(TooMany, circle(30))

    def test_without_rules(self):
        self.refused(TooMany, System(Order("ab"), []))

    def test_a_letter_behind_not_ahead(self):
        # "ab" is "a", while "ba" stays as it is.
        world = world_of(System(Order("ab"), [("aa", "a"), ("ab", "a"), ("bb", "b")]))
        self.assertEqual(world.table_told(), [[1, 2], [1, 1], [3, 2], [3, 3]])

    def test_forms_of_several_uses(self):
        world = world_of(System(ByWeights("ab", [1, 5]), [("b", "aaa"), ("aaaa", "")]))
        self.assertEqual(world.table_told(), [[1, 3], [2, 0], [3, 1], [0, 2]])

    def test_by_the_first_uses_where_overlaps_do_not_meet(self):
        for rules in ([("aa", "b"), ("ab", ""), ("bb", "")], [("bb", "a"), ("ba", "b"), ("aa", "")]):
            system = System(Order("ab"), rules)
            self.assertNotEqual(unmet(system), [])
            words = shortest_words(system)
            table = [[words.index(form_by_the_point(rules, word + letter)) for letter in "ab"] for word in words]
            self.assertEqual(world_of(system).table_told(), table)

    def test_roads_of_4000_uses_and_of_4001(self):
        order = ByWeights("abcd", [1, 61, 3661, 4000])
        within = System(order, FAR + [("d", "c" + "b" * 5 + "a" * 33)])
        beyond = System(order, FAR + [("d", "c" + "b" * 5 + "a" * 34)])
        self.assertEqual(len(within.road("d")), 4000)
        self.assertEqual(world_of(within).table_told(), [[0, 0, 0, 0]])
        self.assertEqual(len(beyond.road("d", 4001)), 4001)
        self.refused(TooFar, beyond)

    def test_too_many_ahead_of_too_far(self):
        order = ByWeights("eabcd", [1, 1, 61, 3661, 4000])
        far = FAR + [("d", "c" + "b" * 5 + "a" * 34)]
        self.refused(TooFar, System(order, far + [("e" * 8, "")]))
        self.refused(TooMany, System(order, far + [("e" * 9, "")]))
        self.refused(TooMany, System(order, far))

    def test_where_all_overlaps_meet(self):
        cases = [
            (Order("ab"), MIRRORS),
            (FromRight("ba"), MIRRORS),
            (Order("ab"), [("aa", "a"), ("bb", "b"), ("ab", "ba")]),
            (Order("ab"), [("aaaa", ""), ("bb", ""), ("ab", "ba")]),
            (ByWeights("ab", [1, 5]), [("b", "aa"), ("aaaaa", "")]),
            (Order("abc"), [("ab", ""), ("ba", ""), ("c", "aa"), ("ccc", "")]),
            (Order("abc"), [("aa", ""), ("bb", ""), ("cc", ""), ("ab", "ba"), ("ac", "ca"), ("bc", "cb")]),
        ]
        for order, pacts in cases:
            with self.subTest(pacts):
                whole, kept = completed(order, pacts, 6)
                self.assertTrue(whole)
                system = system_by(order, kept)
                words = shortest_words(system)
                world = world_of(system)
                self.assertIsNone(world.broken(system.rules_told()))
                self.assertIsNone(world.broken(pacts))
                for word in words_up_to(order.letters, 5):
                    self.assertEqual(words[world.led(0, word)], system.shortest(word))


class Lists(unittest.TestCase):
    def test_words_are_the_askers_own(self):
        system = System(Order("ab"), MIRRORS)
        words = shortest_words(system)
        words.clear()
        second = shortest_words(system)
        self.assertEqual(second, ["", "a", "b", "ab", "ba", "aba"])
        shortest_words(system).append("b")
        self.assertEqual(second, ["", "a", "b", "ab", "ba", "aba"])

    def test_worlds_are_the_askers_own(self):
        system = System(Order("ab"), MIRRORS)
        told = [[1, 2], [0, 3], [4, 0], [5, 1], [2, 5], [3, 4]]
        first = world_of(system)
        first.table_told()[0][0] = 5
        second = world_of(system)
        second.table_told().clear()
        self.assertEqual(first.table_told(), told)
        self.assertEqual(second.table_told(), told)

    def test_the_system_is_not_changed(self):
        system = System(Order("ab"), MIRRORS)
        shortest_words(system)
        world_of(system)
        self.assertEqual(system.rules_told(), MIRRORS)
        self.assertEqual(system.shortest("babab"), "a")

    def test_kinds(self):
        words = shortest_words(System(Order("ab"), MIRRORS))
        self.assertIs(type(words), list)
        self.assertEqual({type(word) for word in words}, {str})


class Interface(unittest.TestCase):
    def test_arguments(self):
        self.assertEqual(str(inspect.signature(module.shortest_words)), "(system, most=8)")
        self.assertEqual(str(inspect.signature(module.world_of)), "(system)")


if __name__ == "__main__":
    unittest.main()

import inspect
import itertools
import unittest

from letterlaw.errors import NoLetters, NoOrder
from letterlaw.orders import ByWeights, FromRight, Order


def words_up_to(letters, length):
    return ["".join(word) for size in range(length + 1) for word in itertools.product(letters, repeat=size)]


def some_orders():
    return [
        Order("ab"), Order("ba"), FromRight("ab"), FromRight("ba"), ByWeights("ab", [1, 1]), ByWeights("ab", [1, 2]),
        ByWeights("ba", [1, 2]), ByWeights("ab", [2, 1]), ByWeights("ab", [1000000, 1]), ByWeights("ab", [3, 2]),
    ]


class Making(unittest.TestCase):
    def assert_refused(self, error, kind, *handed):
        with self.assertRaises(error) as caught:
            kind(*handed)
        self.assertIs(type(caught.exception), error)

    def test_letters(self):
        for letters in ("a", "ba", "zyx", "abcdef"):
            self.assertEqual(Order(letters).letters, letters)
            self.assertEqual(FromRight(letters).letters, letters)
            self.assertEqual(ByWeights(letters, [1] * len(letters)).letters, letters)

    def test_wrong_letters(self):
        for letters in ("", "abcdefg", "aa", "aba", "A", "a1", "a b", "\u00e9"):
            with self.subTest(letters):
                self.assert_refused(NoLetters, Order, letters)
                self.assert_refused(NoLetters, FromRight, letters)
                self.assert_refused(NoLetters, ByWeights, letters, [1] * len(letters))

    def test_the_others_stand_under_the_order_by_length(self):
        self.assertEqual(Order.__bases__, (object,))
        self.assertEqual(FromRight.__bases__, (Order,))
        self.assertEqual(ByWeights.__bases__, (Order,))

    def test_weights_at_the_edges(self):
        order = ByWeights("ab", [1, 1000000])
        self.assertEqual(order.weight("a"), 1)
        self.assertEqual(order.weight("b"), 1000000)

    def test_weights_beyond_the_edges(self):
        wrong = ([0, 1], [1, 0], [1000001, 1], [1, 1000001], [-1, 1], [1, -1], [0, 0], [10 ** 59, 1], [1, -(10 ** 59)])
        for weights in wrong:
            with self.subTest(weights):
                self.assert_refused(NoOrder, ByWeights, "ab", weights)

    def test_not_as_many_weights(self):
        for weights in ([], [1], [1, 1, 1], [1, 1, 0], [0], [1] * 3000):
            with self.subTest(weights):
                self.assert_refused(NoOrder, ByWeights, "ab", weights)
        self.assert_refused(NoOrder, ByWeights, "a", [])
        self.assert_refused(NoOrder, ByWeights, "abcdef", [1, 2, 3, 4, 5])
        self.assert_refused(NoOrder, ByWeights, "abcdef", [1, 2, 3, 4, 5, 6, 7])

    def test_letters_are_refused_ahead_of_weights(self):
        for letters in ("", "aa", "A", "abcdefg"):
            for weights in ([], [0], [0, 0], [1], [1, 1], [1] * 7):
                with self.subTest(letters, weights=weights):
                    self.assert_refused(NoLetters, ByWeights, letters, weights)

    def test_weights_are_not_changed_and_the_orders_own(self):
        weights = [1, 2]
        order = ByWeights("ab", weights)
        self.assertEqual(weights, [1, 2])
        weights[0] = 5
        weights.append(7)
        self.assertEqual(order.weight("ab"), 3)
        self.assertTrue(order.before("aa", "aaa"))
        self.assertTrue(order.before("a", "b"))
        weights.clear()
        self.assertEqual(order.weight("abb"), 5)


class Weights(unittest.TestCase):
    def test_by_length_and_from_the_right(self):
        for order in (Order("abc"), FromRight("abc")):
            self.assertEqual(order.weight(""), 0)
            self.assertEqual(order.weight("b"), 1)
            self.assertEqual(order.weight("cab"), 3)
            self.assertEqual(order.weight("c" * 60), 60)

    def test_by_weights(self):
        order = ByWeights("cab", [5, 70, 900])
        self.assertEqual(order.weight(""), 0)
        self.assertEqual(order.weight("c"), 5)
        self.assertEqual(order.weight("a"), 70)
        self.assertEqual(order.weight("b"), 900)
        self.assertEqual(order.weight("abcab"), 5 + 2 * 70 + 2 * 900)
        self.assertEqual(ByWeights("a", [1000000]).weight("a" * 60), 60000000)

    def test_seen(self):
        for word, turned in (("", ""), ("a", "a"), ("aab", "baa"), ("abc", "cba")):
            self.assertEqual(Order("abc").seen(word), word)
            self.assertEqual(ByWeights("abc", [3, 2, 1]).seen(word), word)
            self.assertEqual(FromRight("abc").seen(word), turned)


class Before(unittest.TestCase):
    def assert_before(self, order, one, other):
        self.assertIs(order.before(one, other), True)
        self.assertIs(order.before(other, one), False)

    def test_less_weight_first(self):
        self.assert_before(Order("ab"), "b", "aa")
        self.assert_before(FromRight("ab"), "b", "aa")
        self.assert_before(ByWeights("ab", [1, 3]), "aa", "b")
        self.assert_before(ByWeights("ab", [1, 3]), "b", "aaaa")
        self.assert_before(ByWeights("ab", [1, 1000000]), "a" * 60, "b")

    def test_of_one_weight_the_first_unlike_letter_decides(self):
        self.assert_before(Order("ab"), "abb", "baa")
        self.assert_before(Order("ab"), "aab", "aba")
        self.assert_before(FromRight("ab"), "baa", "abb")
        self.assert_before(FromRight("ab"), "aba", "aab")
        self.assert_before(FromRight("ab"), "bba", "aab")

    def test_of_one_weight_with_unlike_lengths(self):
        order = ByWeights("ab", [1, 3])
        self.assertEqual(order.weight("aaa"), order.weight("b"))
        self.assert_before(order, "aaa", "b")
        self.assert_before(order, "abaaa", "abb")
        self.assert_before(ByWeights("ba", [3, 1]), "b", "aaa")

    def test_by_the_letters_own_order(self):
        self.assert_before(Order("ba"), "b", "a")
        self.assert_before(Order("zay"), "za", "ay")
        self.assert_before(Order("zay"), "ya", "yy")
        self.assert_before(FromRight("ba"), "ab", "ba")
        self.assert_before(ByWeights("ba", [2, 2]), "ab", "aa")

    def test_the_empty_word_comes_before_every_other_one(self):
        for order in some_orders():
            self.assertIs(order.before("", ""), False)
            for word in words_up_to("ab", 4)[1:] + ["a" * 60, "b" * 60]:
                self.assert_before(order, "", word)

    def test_no_word_comes_before_itself(self):
        for order in some_orders():
            for word in words_up_to("ab", 4):
                self.assertIs(order.before(word, word), False)

    def test_just_one_of_two_unlike_words_comes_before(self):
        words = words_up_to("ab", 4)
        for order in some_orders():
            for one, other in itertools.combinations(words, 2):
                self.assertNotEqual(order.before(one, other), order.before(other, one))

    def test_what_is_written_ahead_and_behind_changes_nothing(self):
        words = words_up_to("ab", 2)
        for order in some_orders():
            for one, other in itertools.product(words_up_to("ab", 3), repeat=2):
                told = order.before(one, other)
                for ahead, behind in itertools.product(words, repeat=2):
                    self.assertEqual(order.before(ahead + one + behind, ahead + other + behind), told)

    def test_as_the_point_tells(self):
        letters = "ba"
        kinds = (
            (Order(letters), len, lambda word: word),
            (FromRight(letters), len, lambda word: word[::-1]),
            (ByWeights(letters, [2, 1]), lambda word: len(word) + word.count("b"), lambda word: word),
        )
        for order, weight, seen in kinds:
            for one, other in itertools.product(words_up_to(letters, 4), repeat=2):
                told = weight(one) < weight(other)
                if weight(one) == weight(other) and one != other:
                    pairs = zip(seen(one), seen(other))
                    first, second = next(pair for pair in pairs if pair[0] != pair[1])
                    told = letters.index(first) < letters.index(second)
                self.assertIs(order.before(one, other), told)


class Rules(unittest.TestCase):
    def test_one_way_round(self):
        self.assertEqual(Order("ab").rule_of("ab", "ba"), ("ba", "ab"))
        self.assertEqual(Order("ab").rule_of("ba", "ab"), ("ba", "ab"))
        self.assertEqual(FromRight("ab").rule_of("ab", "ba"), ("ab", "ba"))
        self.assertEqual(FromRight("ab").rule_of("ba", "ab"), ("ab", "ba"))
        self.assertEqual(ByWeights("ab", [1, 3]).rule_of("b", "aa"), ("b", "aa"))
        self.assertEqual(ByWeights("ab", [1, 3]).rule_of("aa", "b"), ("b", "aa"))

    def test_with_the_empty_word(self):
        for order in some_orders():
            self.assertEqual(order.rule_of("", "b"), ("b", ""))
            self.assertEqual(order.rule_of("b", ""), ("b", ""))

    def test_a_word_and_itself(self):
        for order in some_orders():
            for word in ("", "a", "ba"):
                self.assertIsNone(order.rule_of(word, word))

    def test_the_right_word_comes_before_the_left_one(self):
        for order in some_orders():
            for one, other in itertools.permutations(words_up_to("ab", 3), 2):
                rule = order.rule_of(one, other)
                self.assertIs(type(rule), tuple)
                self.assertEqual(sorted(rule), sorted((one, other)))
                self.assertTrue(order.before(rule[1], rule[0]))


class Ranked(unittest.TestCase):
    def test_by_each_order(self):
        words = ["ba", "", "b", "ab", "aa", "a", "bb"]
        self.assertEqual(Order("ab").ranked(words), ["", "a", "b", "aa", "ab", "ba", "bb"])
        self.assertEqual(Order("ba").ranked(words), ["", "b", "a", "bb", "ba", "ab", "aa"])
        self.assertEqual(FromRight("ab").ranked(words), ["", "a", "b", "aa", "ba", "ab", "bb"])
        self.assertEqual(ByWeights("ab", [1, 2]).ranked(words), ["", "a", "aa", "b", "ab", "ba", "bb"])

    def test_each_as_often(self):
        self.assertEqual(Order("ab").ranked(["b", "", "a", "b", "", "b"]), ["", "", "a", "b", "b", "b"])
        self.assertEqual(Order("ab").ranked([]), [])

    def test_a_new_list_and_nothing_changed(self):
        order = Order("ab")
        for words in (["b", "a"], ["a", "b"]):
            handed = list(words)
            told = order.ranked(handed)
            self.assertIsNot(told, handed)
            told.append("bbb")
            self.assertEqual(handed, words)
            self.assertEqual(order.ranked(handed), ["a", "b"])

    def test_later_changes_do_not_reach_what_was_told(self):
        handed = ["b", "a"]
        told = Order("ab").ranked(handed)
        handed.clear()
        self.assertEqual(told, ["a", "b"])

    def test_many(self):
        words = [word for word in words_up_to("ab", 10) if word][::-1]
        self.assertEqual(Order("ab").ranked(words), words[::-1])


class Interface(unittest.TestCase):
    def test_arguments(self):
        self.assertEqual(str(inspect.signature(Order)), "(letters)")
        self.assertEqual(str(inspect.signature(FromRight)), "(letters)")
        self.assertEqual(str(inspect.signature(ByWeights)), "(letters, weights)")
        told = {
            "weight": "(word)", "seen": "(word)", "before": "(one, other)", "rule_of": "(one, other)",
            "ranked": "(words)",
        }
        for order in (Order("a"), FromRight("a"), ByWeights("a", [1])):
            for name, arguments in told.items():
                self.assertEqual(str(inspect.signature(getattr(order, name))), arguments)


if __name__ == "__main__":
    unittest.main()

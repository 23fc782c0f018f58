import inspect
import unittest

from letterlaw.errors import NoLetters, NoUse, NoWord
from letterlaw.words import letters_of, places, put, word_of


class Letters(unittest.TestCase):
    def test_taken(self):
        for text in ("a", "z", "ab", "ba", "zyx", "abcdef", "qwerty"):
            with self.subTest(text):
                self.assertEqual(letters_of(text), text)

    def test_every_small_letter(self):
        for sign in "abcdefghijklmnopqrstuvwxyz":
            self.assertEqual(letters_of(sign), sign)

    def test_refused(self):
        wrong = (
            "", "abcdefg", "aa", "aba", "abcdea", "A", "aB", "a1", "a b", " a", "a ", "a.",
            "a\n", "`", "{", "\u00e9", "\u00df", "\uff41", "a\u0301", "\u0131",
        )
        for text in wrong:
            with self.subTest(text), self.assertRaises(NoLetters) as caught:
                letters_of(text)
            self.assertIs(type(caught.exception), NoLetters)


class Words(unittest.TestCase):
    def place_refused(self, *handed):
        with self.assertRaises(NoWord) as caught:
            word_of(*handed)
        self.assertIs(type(caught.exception), NoWord)
        return caught.exception.place

    def test_taken(self):
        for text in ("", "a", "b", "abba", "a" * 60):
            with self.subTest(text):
                self.assertEqual(word_of("ab", text), text)

    def test_letters_in_whatever_order(self):
        self.assertEqual(word_of("cab", "abc"), "abc")

    def test_place_of_the_first_wrong_sign(self):
        self.assertEqual(self.place_refused("ab", "c"), 0)
        self.assertEqual(self.place_refused("ab", "abc"), 2)
        self.assertEqual(self.place_refused("ab", "acbc"), 1)
        self.assertEqual(self.place_refused("ab", "a b"), 1)
        self.assertEqual(self.place_refused("ab", "."), 0)
        self.assertEqual(self.place_refused("ab", "aA"), 1)
        self.assertEqual(self.place_refused("ab", "ab\n"), 2)

    def test_place_where_the_word_is_full(self):
        self.assertEqual(self.place_refused("ab", "a" * 61), 60)
        self.assertEqual(self.place_refused("ab", "a" * 1000), 60)
        self.assertEqual(self.place_refused("ab", "a" * 60 + "."), 60)

    def test_the_first_of_both_counts(self):
        self.assertEqual(self.place_refused("ab", "a" * 59 + "c" + "a"), 59)
        self.assertEqual(self.place_refused("ab", "a" * 61 + "c"), 60)

    def test_so_many_letters(self):
        self.assertEqual(word_of("ab", "aba", 3), "aba")
        self.assertEqual(self.place_refused("ab", "abab", 3), 3)
        self.assertEqual(word_of("ab", "", 0), "")
        self.assertEqual(self.place_refused("ab", "a", 0), 0)
        self.assertEqual(word_of("ab", "a" * 61, 61), "a" * 61)
        self.assertEqual(word_of("ab", "ab", most=2), "ab")
        self.assertEqual(self.place_refused("ab", "a" * 11, 10), 10)


class Parts(unittest.TestCase):
    def test_all_places_rising(self):
        self.assertEqual(places("abcabc", "abc"), [0, 3])
        self.assertEqual(places("abcabc", "bc"), [1, 4])
        self.assertEqual(places("ab", "ab"), [0])

    def test_places_that_overlap(self):
        self.assertEqual(places("aaaa", "aa"), [0, 1, 2])
        self.assertEqual(places("ababa", "aba"), [0, 2])

    def test_no_place(self):
        self.assertEqual(places("ab", "ba"), [])
        self.assertEqual(places("ab", "aba"), [])
        self.assertEqual(places("ab", "bab"), [])
        self.assertEqual(places("", "a"), [])

    def test_empty_part(self):
        self.assertEqual(places("abc", ""), [0, 1, 2, 3])
        self.assertEqual(places("", ""), [0])

    def test_places_are_a_new_list(self):
        told = places("aa", "a")
        told.append(9)
        self.assertEqual(places("aa", "a"), [0, 1])


class Putting(unittest.TestCase):
    def assert_refused(self, *handed):
        with self.assertRaises(NoUse) as caught:
            put(*handed)
        self.assertIs(type(caught.exception), NoUse)
        self.assertEqual(caught.exception.at, 0)

    def test_what_is_ahead_and_behind_stays(self):
        self.assertEqual(put("abcab", 1, "bc", "aaa"), "aaaaab")
        self.assertEqual(put("abcab", 3, "ab", "c"), "abcc")
        self.assertEqual(put("abcab", 0, "ab", "c"), "ccab")

    def test_only_that_place(self):
        self.assertEqual(put("aaa", 1, "a", "b"), "aba")
        self.assertEqual(put("ababab", 2, "ab", "c"), "abcab")

    def test_empty_parts(self):
        self.assertEqual(put("abc", 0, "", "b"), "babc")
        self.assertEqual(put("abc", 1, "", "b"), "abbc")
        self.assertEqual(put("abc", 3, "", "b"), "abcb")
        self.assertEqual(put("", 0, "", "ab"), "ab")
        self.assertEqual(put("abc", 1, "b", ""), "ac")
        self.assertEqual(put("ab", 0, "ab", ""), "")
        self.assertEqual(put("ab", 1, "", ""), "ab")

    def test_the_told_word_may_be_long(self):
        self.assertEqual(put("a" * 60, 59, "a", "b" * 60), "a" * 59 + "b" * 60)

    def test_refused_where_it_does_not_stand(self):
        self.assert_refused("abc", 0, "b", "c")
        self.assert_refused("abc", 2, "cb", "a")
        self.assert_refused("", 0, "a", "b")

    def test_refused_below_0(self):
        self.assert_refused("abc", -1, "c", "a")
        self.assert_refused("abc", -3, "abc", "a")
        self.assert_refused("abc", -2, "b", "a")
        self.assert_refused("abc", -1, "", "a")
        self.assert_refused("", -1, "", "a")

    def test_refused_behind_the_end(self):
        self.assert_refused("abc", 3, "a", "b")
        self.assert_refused("abc", 4, "", "b")
        self.assert_refused("", 1, "", "b")
        self.assert_refused("abc", 10 ** 59, "", "b")

    def test_stands_just_at_the_told_places(self):
        for word in ("", "a", "aba", "aabaab"):
            for part in ("", "a", "b", "aa", "ab", "aba", "aabaab"):
                told = places(word, part)
                for place in range(-8, 9):
                    with self.subTest(word=word, part=part, place=place):
                        if place in told:
                            self.assertEqual(put(word, place, part, part), word)
                        else:
                            self.assert_refused(word, place, part, part)


class Interface(unittest.TestCase):
    def test_arguments(self):
        self.assertEqual(str(inspect.signature(letters_of)), "(text)")
        self.assertEqual(str(inspect.signature(word_of)), "(letters, text, most=60)")
        self.assertEqual(str(inspect.signature(places)), "(word, part)")
        self.assertEqual(str(inspect.signature(put)), "(word, place, old, new)")


if __name__ == "__main__":
    unittest.main()

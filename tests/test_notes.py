import inspect
import unittest

from letterlaw import notes
from letterlaw.errors import NoPact, NoStep, NoWord
from letterlaw.notes import (
    read_pact, read_steps, read_word, shown_entry, shown_pact, shown_steps, shown_word,
)


class Shown(unittest.TestCase):
    def test_word(self):
        self.assertEqual(shown_word("abba"), "abba")
        self.assertEqual(shown_word("a"), "a")
        self.assertEqual(shown_word(""), ".")

    def test_pact(self):
        self.assertEqual(shown_pact(("ab", "ba")), "ab = ba")
        self.assertEqual(shown_pact(("a", "a")), "a = a")
        self.assertEqual(shown_pact(("aa", "")), "aa = .")
        self.assertEqual(shown_pact(("", "aa")), ". = aa")
        self.assertEqual(shown_pact(("", "")), ". = .")

    def test_step(self):
        self.assertEqual(shown_steps([(3, 0, True)]), "3>0")
        self.assertEqual(shown_steps([(12, 7, False)]), "12<7")

    def test_steps(self):
        self.assertEqual(shown_steps([]), ".")
        self.assertEqual(shown_steps([(3, 0, True), (12, 7, False)]), "3>0 12<7")
        self.assertEqual(shown_steps([(0, 0, False), (0, 1, True), (0, 2, True)]), "0<0 0>1 0>2")

    def test_greater_numbers_are_written(self):
        self.assertEqual(shown_steps([(10000, 12345, True)]), "10000>12345")

    def test_entry(self):
        entry = ("ab", "ba", [(3, 0, True), (12, 7, False)])
        self.assertEqual(shown_entry(entry), "ab = ba by 3>0 12<7")
        self.assertEqual(shown_entry(("aa", "", [(0, 0, True)])), "aa = . by 0>0")

    def test_entry_with_whatever_steps(self):
        self.assertEqual(shown_entry(("a", "b", [])), "a = b by .")
        self.assertEqual(shown_entry(("", "", [])), ". = . by .")
        self.assertEqual(shown_entry(("b", "b", [(99, 99, False)])), "b = b by 99<99")

    def test_nothing_handed_in_is_changed(self):
        steps = [(1, 2, True), (3, 4, False)]
        shown_steps(steps)
        shown_entry(("a", "b", steps))
        self.assertEqual(steps, [(1, 2, True), (3, 4, False)])


class Refusing(unittest.TestCase):
    def refused(self, error, reader, *handed):
        with self.assertRaises(error) as caught:
            reader(*handed)
        self.assertIs(type(caught.exception), error)
        return caught.exception

    def place_refused(self, reader, *handed):
        return self.refused(NoWord, reader, *handed).place


class ReadWord(Refusing):
    def test_read(self):
        self.assertEqual(read_word("ab", "."), "")
        self.assertEqual(read_word("ab", "a"), "a")
        self.assertEqual(read_word("ab", "abba"), "abba")
        self.assertEqual(read_word("ab", "b" * 60), "b" * 60)

    def test_empty_text(self):
        self.assertEqual(self.place_refused(read_word, "ab", ""), 0)

    def test_wrong_signs(self):
        self.assertEqual(self.place_refused(read_word, "ab", "c"), 0)
        self.assertEqual(self.place_refused(read_word, "ab", "abca"), 2)
        self.assertEqual(self.place_refused(read_word, "ab", ".."), 0)
        self.assertEqual(self.place_refused(read_word, "ab", "a."), 1)
        self.assertEqual(self.place_refused(read_word, "ab", ".a"), 0)
        self.assertEqual(self.place_refused(read_word, "ab", " a"), 0)
        self.assertEqual(self.place_refused(read_word, "ab", "a "), 1)

    def test_full(self):
        self.assertEqual(self.place_refused(read_word, "ab", "a" * 61), 60)
        self.assertEqual(self.place_refused(read_word, "ab", "aba", 2), 2)
        self.assertEqual(self.place_refused(read_word, "ab", "a", 0), 0)
        self.assertEqual(read_word("ab", "ab", 2), "ab")
        self.assertEqual(read_word("ab", ".", 0), "")
        self.assertEqual(read_word("ab", "a" * 61, most=61), "a" * 61)


class ReadPact(Refusing):
    def test_read(self):
        self.assertEqual(read_pact("ab", "ab = ba"), ("ab", "ba"))
        self.assertEqual(read_pact("ab", "aa = ."), ("aa", ""))
        self.assertEqual(read_pact("ab", ". = aa"), ("", "aa"))
        self.assertEqual(read_pact("ab", ". = ."), ("", ""))
        self.assertEqual(read_pact("ab", "a" * 60 + " = " + "b" * 60), ("a" * 60, "b" * 60))

    def test_not_parted(self):
        for text in ("", ".", "ab", "ab=ba", "ab= ba", "ab =ba", "ab = ".strip(), "=", " =", "c", "a" * 61):
            with self.subTest(text):
                self.refused(NoPact, read_pact, "ab", text)

    def test_parted_at_the_first(self):
        self.assertEqual(self.place_refused(read_pact, "ab", "a = b = a"), 1)
        self.assertEqual(self.place_refused(read_pact, "ab", "a = ab = a"), 2)
        self.assertEqual(self.place_refused(read_pact, "ab", "ab =  = a"), 0)
        self.assertEqual(self.place_refused(read_pact, "ab", "abb = = a"), 0)

    def test_place_within_its_side(self):
        self.assertEqual(self.place_refused(read_pact, "ab", "abc = ba"), 2)
        self.assertEqual(self.place_refused(read_pact, "ab", "aaab = bc"), 1)
        self.assertEqual(self.place_refused(read_pact, "ab", "a  = b"), 1)
        self.assertEqual(self.place_refused(read_pact, "ab", "a =  b"), 0)

    def test_left_side_first(self):
        self.assertEqual(self.place_refused(read_pact, "ab", "abc = c"), 2)
        self.assertEqual(self.place_refused(read_pact, "ab", "c = abc"), 0)

    def test_empty_sides(self):
        self.assertEqual(self.place_refused(read_pact, "ab", " = ab"), 0)
        self.assertEqual(self.place_refused(read_pact, "ab", "ab = "), 0)
        self.assertEqual(self.place_refused(read_pact, "ab", " = "), 0)

    def test_full_sides(self):
        self.assertEqual(self.place_refused(read_pact, "ab", "a" * 61 + " = b"), 60)
        self.assertEqual(self.place_refused(read_pact, "ab", "b = " + "a" * 61), 60)
        self.assertEqual(self.place_refused(read_pact, "ab", "aba = b", 2), 2)
        self.assertEqual(self.place_refused(read_pact, "ab", "b = aba", 2), 2)
        self.assertEqual(read_pact("ab", "ab = ba", most=2), ("ab", "ba"))


class ReadSteps(Refusing):
    def test_no_steps(self):
        self.assertEqual(read_steps("."), [])

    def test_read(self):
        self.assertEqual(read_steps("3>0"), [(3, 0, True)])
        self.assertEqual(read_steps("12<7"), [(12, 7, False)])
        self.assertEqual(read_steps("0<0 1>10 0>2"), [(0, 0, False), (1, 10, True), (0, 2, True)])

    def test_kinds(self):
        step = read_steps("1>0")[0]
        self.assertEqual([type(value) for value in step], [int, int, bool])
        self.assertIs(type(step), tuple)

    def test_one_to_four_figures(self):
        self.assertEqual(read_steps("9>99"), [(9, 99, True)])
        self.assertEqual(read_steps("999<9999"), [(999, 9999, False)])
        self.assertEqual(read_steps("1000>1000"), [(1000, 1000, True)])
        self.assertEqual(read_steps("100>10"), [(100, 10, True)])

    def test_five_figures(self):
        for text in ("10000>0", "0>10000", "12345<1", "1<99999"):
            with self.subTest(text):
                self.refused(NoStep, read_steps, text)

    def test_a_0_ahead(self):
        for text in ("00>0", "0>00", "01>0", "0>01", "0001<1", "1<0000"):
            with self.subTest(text):
                self.refused(NoStep, read_steps, text)

    def test_wrong_steps(self):
        wrong = (
            "", " ", "3", ">", "<", "3>", ">0", "3<", "<0", "3=0", "3 > 0", "3> 0", "3>>0", "3<>0", "3><0",
            "3>0>1", "3>0<1", "3<0>1", "3<0<1", "-1>0", "0>-1", "+1>0", "1>+1", "a>0", "0>a", "1_0>0", "0>1_0",
            "3>0\n", "\n3>0", "\t3>0", "\u0663>0", "0>\u00b2", "0>\uff11", "3>0.",
        )
        for text in wrong:
            with self.subTest(text):
                self.refused(NoStep, read_steps, text)

    def test_wrong_blanks(self):
        for text in ("3>0  1>0", " 3>0", "3>0 ", "3>0\t1>0", "3>0\n1>0", "3>0,1>0", "3>01>0"):
            with self.subTest(text):
                self.refused(NoStep, read_steps, text)

    def test_point_among_steps(self):
        for text in ("..", ". .", "3>0 .", ". 3>0", " .", ". "):
            with self.subTest(text):
                self.refused(NoStep, read_steps, text)

    def test_one_wrong_step_among_others(self):
        for text in ("x 1>0 2>0", "1>0 x 2>0", "1>0 2>0 x"):
            with self.subTest(text):
                self.refused(NoStep, read_steps, text)

    def test_a_new_list_each_time(self):
        for text, steps in ((".", []), ("3>0", [(3, 0, True)])):
            read_steps(text).append((9, 9, True))
            self.assertEqual(read_steps(text), steps)


class ReadAgain(unittest.TestCase):
    def test_words(self):
        for word in ("", "a", "ba", "b" * 60):
            self.assertEqual(read_word("ab", shown_word(word)), word)

    def test_pacts(self):
        for pact in (("", ""), ("a", ""), ("", "b"), ("ab", "ba"), ("a" * 60, "b" * 60)):
            self.assertEqual(read_pact("ab", shown_pact(pact)), pact)

    def test_steps(self):
        for number in (0, 1, 9, 10, 99, 100, 999, 1000, 9999):
            for forth in (True, False):
                steps = [(number, 0, forth), (0, number, not forth)]
                self.assertEqual(read_steps(shown_steps(steps)), steps)
        self.assertEqual(read_steps(shown_steps([])), [])


class Interface(unittest.TestCase):
    def test_arguments(self):
        told = {
            "shown_word": "(word)", "shown_pact": "(pact)", "shown_steps": "(steps)", "shown_entry": "(entry)",
            "read_word": "(letters, text, most=60)", "read_pact": "(letters, text, most=60)", "read_steps": "(text)",
        }
        for name, arguments in told.items():
            self.assertEqual(str(inspect.signature(getattr(notes, name))), arguments)


if __name__ == "__main__":
    unittest.main()

import inspect
import itertools
import unittest

from letterlaw.completing import completed
from letterlaw.desk import Desk
from letterlaw.errors import NoLetters, NoOrder, NoPact, NoRow, NoWord, TooMany
from letterlaw.judging import judged
from letterlaw.notes import shown_entry, shown_steps, shown_word
from letterlaw.orders import ByWeights, FromRight, Order

ROWS = [
    "letters ab", "order length", "order right", "order weights 2 1", "pact ab = ba", "drop", "rules", "form ab",
    "ask ab ba",
]
MIRRORS = ["pact aa = .", "pact bb = .", "pact bab = aba"]
MIRRORS_TOLD = ", aa = . by 0>0, bb = . by 1>0, bab = aba by 2>0"
# Roads by the rule ba = ab of 40 uses and of 41.
WITHIN = "b" * 4 + "a" * 10
BEYOND = "b" * 4 + "a" * 9 + "ba"


def desk_of(*rows):
    desk = Desk()
    for row in rows:
        desk.told(row)
    return desk


class Rows(unittest.TestCase):
    def refused(self, desk, refusal, row, place=None):
        with self.assertRaises(refusal) as caught:
            desk.told(row)
        self.assertIs(type(caught.exception), refusal)
        if place is not None:
            self.assertEqual(caught.exception.place, place)


class WithoutLetters(Rows):
    def test_every_other_row(self):
        for row in ROWS[1:] + ["", " ", "letters", "Letters ab", " letters ab", "order", "order weights 1", "nothing"]:
            self.refused(Desk(), NoRow, row)

    def test_rows_that_would_be_refused_otherwise(self):
        for row in ("order weights x", "pact ab", "pact c = c", "form c", "form ", "ask ab", "ask c d"):
            self.refused(Desk(), NoRow, row)

    def test_letters_that_are_none(self):
        desk = Desk()
        for text in ("", "aa", "abcdefg", "aB", "a b", " a", "a ", "a1", "\u00e4", "."):
            self.refused(desk, NoLetters, "letters " + text)
            self.refused(desk, NoRow, "rules")

    def test_desks_have_nothing_in_common(self):
        one = desk_of("letters ab", "pact a = b")
        other = Desk()
        self.refused(other, NoRow, "rules")
        other.told("letters abc")
        self.assertEqual(other.told("rules"), "whole")
        self.assertEqual(one.told("rules"), "whole, b = a by 0<0")


class Form(Rows):
    def test_each_row_as_it_is(self):
        desk = desk_of("letters ab", "pact b = a")
        answers = [desk.told(row) for row in ROWS]
        self.assertEqual(answers, [
            "letters ab", "order length", "order right", "order weights 2 1", "pact 0", "pact ab = ba", "whole",
            "form ab", "forms ab ba",
        ])

    def test_with_a_blank_too_many(self):
        told = {
            "letters  ab": NoLetters, "letters ab ": NoLetters, " letters ab": NoRow,
            "order  length": NoRow, "order length ": NoRow, " order length": NoRow,
            "order  right": NoRow, "order right ": NoRow, " order right": NoRow,
            "order  weights 2 1": NoRow, "order weights  2 1": NoOrder, "order weights 2  1": NoOrder,
            "order weights 2 1 ": NoOrder, " order weights 2 1": NoRow,
            "pact  ab = ba": NoWord, "pact ab  = ba": NoWord, "pact ab =  ba": NoWord, "pact ab = ba ": NoWord,
            " pact ab = ba": NoRow,
            "drop ": NoRow, " drop": NoRow, "rules ": NoRow, " rules": NoRow,
            "form  ab": NoWord, "form ab ": NoWord, " form ab": NoRow,
            "ask  ab ba": NoWord, "ask ab  ba": NoWord, "ask ab ba ": NoWord, " ask ab ba": NoRow,
        }
        desk = desk_of("letters ab", "pact ab = ba")
        for row, refusal in told.items():
            with self.subTest(row):
                self.refused(desk, refusal, row)
        self.assertEqual(desk.told("rules"), "whole, ba = ab by 0<0")

    def test_the_places_of_blanks_too_many(self):
        desk = desk_of("letters ab")
        for row, place in (
            ("pact  ab = ba", 0), ("pact ab  = ba", 2), ("pact ab =  ba", 0), ("pact ab = ba ", 2), ("form  ab", 0),
            ("form ab ", 2), ("ask  ab ba", 0), ("ask ab  ba", 0), ("ask ab ba ", 2),
        ):
            self.refused(desk, NoWord, row, place)

    def test_nothing_behind_the_word(self):
        desk = desk_of("letters ab", "pact ab = ba")
        for row in ("letters", "order", "order ", "order weights", "pact", "form", "ask", "ask "):
            self.refused(desk, NoRow, row)
        self.refused(desk, NoLetters, "letters ")
        self.refused(desk, NoOrder, "order weights ")
        self.refused(desk, NoPact, "pact ")
        self.refused(desk, NoWord, "form ", 0)
        self.assertEqual(desk.told("rules"), "whole, ba = ab by 0<0")

    def test_another_case(self):
        desk = desk_of("letters ab", "pact ab = ba")
        for row in ROWS:
            for other in (row.upper(), row[0].upper() + row[1:], row.replace(" w", " W").replace(" l", " L")):
                if other != row:
                    self.refused(desk, NoRow, other)
        for row in ("order Length", "order Right", "order Weights 2 1", "order LENGTH"):
            self.refused(desk, NoRow, row)
        self.refused(desk, NoLetters, "letters AB")
        self.refused(desk, NoWord, "pact aB = ba", 1)
        self.refused(desk, NoWord, "form Ab", 0)
        self.refused(desk, NoWord, "ask ab bA", 1)

    def test_something_behind_rows_that_are_just_these(self):
        desk = desk_of("letters ab", "pact ab = ba")
        for row in ("order lengths", "order length 1", "order right ab", "drop 0", "drops", "rules 3", "ruless"):
            self.refused(desk, NoRow, row)
            self.refused(desk, NoRow, row + "\n")
        for row in ("order length\n", "order right\n", "drop\n", "rules\n", "drop\t"):
            self.refused(desk, NoRow, row)
        self.assertEqual(desk.told("drop"), "pact ab = ba")

    def test_other_rows(self):
        desk = desk_of("letters ab", "pact ab = ba")
        for row in ("", " ", ".", "letter ab", "lettersab", "order left", "orderlength", "weights 1 2", "open"):
            self.refused(desk, NoRow, row)
        for row in ("pacts ab = ba", "pactab = ba", "forms ab", "formab", "asks ab ba", "ab = ba", "order weights1 2"):
            self.refused(desk, NoRow, row)
        for row in ("letters\tab", "pact\tab = ba", "form\tab", "ask\tab ba", "order\tlength", "order weights\t1 2"):
            self.refused(desk, NoRow, row)


class Letters(Rows):
    def test_the_answer_is_the_row(self):
        for text in ("a", "ab", "ba", "zyx", "fedcba"):
            self.assertEqual(Desk().told("letters " + text), "letters " + text)

    def test_letters_that_are_none(self):
        desk = desk_of("letters ab", "order right", "pact ba = ab")
        for text in ("", "aa", "aba", "abcdefg", "aB", "a b", "a.", "a1", "\u00e4"):
            self.refused(desk, NoLetters, "letters " + text)
            self.assertEqual(desk.told("rules"), "whole, ab = ba by 0<0")

    def test_other_letters_told_later(self):
        desk = desk_of("letters ab", "order right", "pact ba = ab")
        self.assertEqual(desk.told("letters ca"), "letters ca")
        self.assertEqual(desk.told("rules"), "whole")
        self.refused(desk, NoWord, "form b", 0)
        self.refused(desk, NoRow, "drop")
        self.assertEqual(desk.told("pact ca = ac"), "pact 0")
        # By length, and "c" ahead of "a".
        self.assertEqual(desk.told("rules"), "whole, ac = ca by 0<0")

    def test_the_same_letters_told_again(self):
        desk = desk_of("letters ab", "order weights 9 1", "pact ba = ab", "letters ab")
        self.assertEqual(desk.told("rules"), "whole")
        desk.told("pact a = bb")
        self.assertEqual(desk.told("rules"), "whole, ba = ab by 0>1 0<0, bb = a by 0<0")

    def test_letters_in_their_own_order(self):
        self.assertEqual(desk_of("letters ab", "pact ab = ba").told("rules"), "whole, ba = ab by 0<0")
        self.assertEqual(desk_of("letters ba", "pact ab = ba").told("rules"), "whole, ab = ba by 0>0")


class Orders(Rows):
    def test_the_answer_is_the_row(self):
        desk = desk_of("letters abc")
        for row in ("order length", "order right", "order weights 2 1 3", "order weights 1000000 1 999999"):
            self.assertEqual(desk.told(row), row)

    def test_by_length_at_first(self):
        self.assertEqual(desk_of("letters ab", "pact ba = ab").told("rules"), "whole, ba = ab by 0>0")
        self.assertEqual(desk_of("letters ab", "pact b = aa").told("rules")[:14], "whole, aa = b ")

    def test_each_order(self):
        pacts = ["pact ba = ab", "pact b = aaa"]
        told = [("ba", "ab"), ("b", "aaa")]
        for row, order in (
            ("order length", Order("ab")), ("order right", FromRight("ab")),
            ("order weights 2 1", ByWeights("ab", [2, 1])), ("order weights 1 5", ByWeights("ab", [1, 5])),
        ):
            whole, kept = completed(order, told, 3)
            answer = ", ".join(["whole" if whole else "open"] + [shown_entry(entry) for entry in kept])
            # Told ahead of the pacts and behind them.
            self.assertEqual(desk_of("letters ab", row, *pacts).told("rules"), answer)
            self.assertEqual(desk_of("letters ab", *pacts, row).told("rules"), answer)
            self.assertEqual(desk_of("letters ab", pacts[0], row, pacts[1]).told("rules"), answer)

    def test_the_last_order_holds(self):
        desk = desk_of("letters ab", "pact ba = ab")
        for row, answer in (
            ("order right", "whole, ab = ba by 0<0"), ("order length", "whole, ba = ab by 0>0"),
            ("order weights 1 1", "whole, ba = ab by 0>0"), ("order right", "whole, ab = ba by 0<0"),
        ):
            desk.told(row)
            self.assertEqual(desk.told("rules"), answer)

    def test_weights_of_one_to_seven_figures(self):
        desk = desk_of("letters a")
        for text in ("1", "9", "10", "123", "1234", "12345", "999999", "1000000"):
            self.assertEqual(desk.told("order weights " + text), "order weights " + text)

    def test_weights_that_are_written_otherwise(self):
        desk = desk_of("letters ab", "pact ba = ab", "order right")
        for text in (
            "0", "01", "00", "1000001", "9999999", "10000000", "00000001", "-1", "+1", "1.", "1,000", "1_0", "x", "",
            "a", "\u0661", "\u00b2", "1e3", ".", "1\t", "\n1",
        ):
            for row in ("order weights " + text + " 1", "order weights 1 " + text):
                self.refused(desk, NoOrder, row)
        self.assertEqual(desk.told("rules"), "whole, ab = ba by 0<0")

    def test_too_few_and_too_many(self):
        desk = desk_of("letters abc")
        for text in ("1", "1 2", "1 2 3 4", "1 2 3 4 5 6", "1,2,3", "123"):
            self.refused(desk, NoOrder, "order weights " + text)
        self.assertEqual(desk.told("order weights 1 2 3"), "order weights 1 2 3")

    def test_weights_count_as_they_are_told(self):
        desk = desk_of("letters ab", "pact aa = b", "order weights 500000 1000000")
        self.assertEqual(desk.told("rules"), "whole, b = aa by 0<0")
        desk.told("order weights 500001 1000000")
        self.assertEqual(desk.told("rules")[:13], "whole, aa = b")


class Pacts(Rows):
    def test_numbers(self):
        desk = desk_of("letters ab")
        for number in range(8):
            self.assertEqual(desk.told("pact a = b"), "pact " + str(number))

    def test_the_eighth_and_the_ninth(self):
        desk = desk_of("letters ab", *["pact ab = ba"] * 7)
        self.assertEqual(desk.told("pact aa = b"), "pact 7")
        for times in range(2):
            self.refused(desk, TooMany, "pact bb = a")
        self.assertEqual(desk.told("drop"), "pact aa = b")
        self.assertEqual(desk.told("pact bb = a"), "pact 7")

    def test_a_ninth_that_is_refused_in_its_reading(self):
        desk = desk_of("letters ab", *["pact ab = ba"] * 8)
        self.refused(desk, NoPact, "pact ab")
        self.refused(desk, NoPact, "pact ")
        self.refused(desk, NoWord, "pact ac = b", 1)
        self.refused(desk, NoWord, "pact a = bbc", 2)
        self.refused(desk, NoWord, "pact a = " + "b" * 11, 10)
        self.refused(desk, TooMany, "pact a = " + "b" * 10)

    def test_eight_after_other_letters(self):
        desk = desk_of("letters ab", *["pact ab = ba"] * 8, "letters a")
        for number in range(8):
            self.assertEqual(desk.told("pact a = ."), "pact " + str(number))
        self.refused(desk, TooMany, "pact a = .")

    def test_sides_of_10_letters_and_of_11(self):
        desk = desk_of("letters ab")
        self.assertEqual(desk.told("pact " + "ab" * 5 + " = " + "ba" * 5), "pact 0")
        self.refused(desk, NoWord, "pact " + "a" * 11 + " = b", 10)
        self.refused(desk, NoWord, "pact b = " + "a" * 11, 10)
        self.refused(desk, NoWord, "pact " + "a" * 60 + " = b", 10)
        self.assertEqual(desk.told("drop"), "pact " + "ab" * 5 + " = " + "ba" * 5)

    def test_what_is_no_pact(self):
        desk = desk_of("letters ab")
        for text in ("", "ab", "ab ba", "ab=ba", "ab =ba", "ab= ba", "ab  ba", "=", " =", "= ", "ab == ba"):
            self.refused(desk, NoPact, "pact " + text)
        for text, place in (
            (" = ", 0), ("a = ", 0), (" = a", 0), ("a = b = a", 1), ("a = .b", 0), ("c = d", 0), ("a = ac", 1),
        ):
            self.refused(desk, NoWord, "pact " + text, place)
        self.assertEqual(desk.told("rules"), "whole")

    def test_the_empty_word(self):
        desk = desk_of("letters ab", "pact . = a", "pact b = .", "pact . = .")
        self.assertEqual(desk.told("rules"), "whole, a = . by 0<0, b = . by 1>0")
        self.assertEqual([desk.told("drop") for times in range(3)], ["pact . = .", "pact b = .", "pact . = a"])

    def test_drop(self):
        desk = desk_of("letters ab", "pact ab = ba", "pact aa = .")
        self.assertEqual(desk.told("drop"), "pact aa = .")
        self.assertEqual(desk.told("rules"), "whole, ba = ab by 0<0")
        self.assertEqual(desk.told("pact b = a"), "pact 1")
        self.assertEqual(desk.told("drop"), "pact b = a")
        self.assertEqual(desk.told("drop"), "pact ab = ba")
        self.assertEqual(desk.told("rules"), "whole")

    def test_drop_without_pacts(self):
        desk = desk_of("letters ab")
        self.refused(desk, NoRow, "drop")
        desk.told("pact a = b")
        desk.told("drop")
        for times in range(2):
            self.refused(desk, NoRow, "drop")
        self.assertEqual(desk.told("pact a = b"), "pact 0")


class Rules(Rows):
    def test_whole(self):
        self.assertEqual(desk_of("letters ab").told("rules"), "whole")
        self.assertEqual(desk_of("letters ab", *MIRRORS).told("rules"), "whole" + MIRRORS_TOLD)
        self.assertEqual(desk_of("letters ab", "pact aa = b", "pact bb = .").told("rules"), (
            "whole, aa = b by 0>0, ba = ab by 0<0 0>1, bb = . by 1>0"
        ))

    def test_open(self):
        answer = desk_of("letters ab", "pact bb = ba").told("rules")
        self.assertTrue(answer.startswith("open, bb = ba by 0>0, bab = baa by 0<0 0>1 0>0, baab = baaa by "))
        self.assertEqual(answer.count(", "), 7)

    def test_three_rounds(self):
        # One is whole with three rounds and not with two, the other one with four and not with three.
        for needed, pacts, rows, order, row in (
            (3, [("", "bbab")], ["pact . = bbab"], ByWeights("ba", [7, 1]), "order weights 7 1"),
            (4, [("", "cb"), ("", "aac")], ["pact . = cb", "pact . = aac"], FromRight("cab"), "order right"),
        ):
            wholes = [completed(order, pacts, rounds)[0] for rounds in range(6)]
            self.assertEqual(wholes.index(True), needed)
            entries = [shown_entry(entry) for entry in completed(order, pacts, 3)[1]]
            desk = desk_of("letters " + order.letters, row, *rows)
            self.assertEqual(desk.told("rules"), ", ".join(["whole" if needed == 3 else "open"] + entries))
            self.assertEqual(desk.told("form " + order.letters) == "open", needed == 4)

    def test_nothing_kept(self):
        # The nine "c" lead to "ab" nine times, and these to "a" and "b" apart: 45 uses.
        desk = desk_of(
            "letters abcd", "order weights 1 1 3 1000", "pact ba = ab", "pact c = ab", "pact d = ccccccccc",
        )
        self.assertEqual(desk.told("rules"), "open")


class Forms(Rows):
    def test_ordinary(self):
        desk = desk_of("letters ab", *MIRRORS)
        for word, form in (("babab", "a"), ("ab", "ab"), ("abab", "ba"), ("aa", "."), (".", "."), ("bbb", "b")):
            self.assertEqual(desk.told("form " + word), "form " + form)

    def test_without_pacts(self):
        desk = desk_of("letters ab")
        self.assertEqual(desk.told("form ab"), "form ab")
        self.assertEqual(desk.told("form ."), "form .")

    def test_a_list_that_is_not_whole(self):
        desk = desk_of("letters ab", "pact bb = ba")
        for word in (".", "a", "bb", "bab"):
            self.assertEqual(desk.told("form " + word), "open")

    def test_roads_of_40_uses_and_of_41(self):
        desk = desk_of("letters ab", "pact ba = ab")
        self.assertEqual(desk.told("form " + WITHIN), "form " + "a" * 10 + "b" * 4)
        self.assertEqual(desk.told("form " + BEYOND), "open")

    def test_words_of_20_letters_and_of_21(self):
        desk = desk_of("letters ab")
        self.assertEqual(desk.told("form " + "ab" * 10), "form " + "ab" * 10)
        self.refused(desk, NoWord, "form " + "a" * 21, 20)
        self.refused(desk, NoWord, "form " + "a" * 60, 20)
        self.refused(desk, NoWord, "form " + "a" * 20 + "c", 20)

    def test_forms_may_be_longer(self):
        desk = desk_of("letters ab", "order weights 1 1000000", "pact b = aaaaaaaaaa")
        self.assertEqual(desk.told("form " + "b" * 20), "form " + "a" * 200)

    def test_what_is_no_word(self):
        desk = desk_of("letters ab")
        for text, place in (("", 0), ("c", 0), ("abc", 2), ("a b", 1), ("ab.", 2), (". ", 0), ("..", 0), ("aB", 1)):
            self.refused(desk, NoWord, "form " + text, place)


class Asked(Rows):
    def test_alike(self):
        desk = desk_of("letters ab", *MIRRORS)
        self.assertEqual(desk.told("ask babab a"), "alike 2>0 0>2 1>1")
        self.assertEqual(desk.told("ask a babab"), "alike 1<1 0<2 2<0")
        self.assertEqual(desk.told("ask ab ab"), "alike .")
        self.assertEqual(desk.told("ask . ."), "alike .")
        self.assertEqual(desk.told("ask aa ."), "alike 0>0")

    def test_forms(self):
        desk = desk_of("letters ab", *MIRRORS)
        self.assertEqual(desk.told("ask abab ab"), "forms ba ab" + MIRRORS_TOLD)
        self.assertEqual(desk.told("ask ab abab"), "forms ab ba" + MIRRORS_TOLD)
        self.assertEqual(desk.told("ask . a"), "forms . a" + MIRRORS_TOLD)
        self.assertEqual(desk.told("ask a bb"), "forms a ." + MIRRORS_TOLD)
        self.assertEqual(desk_of("letters ab").told("ask a b"), "forms a b")

    def test_world(self):
        desk = desk_of("letters ab", "pact bb = ba")
        self.assertEqual(desk.told("ask a b"), "world 01 11")
        self.assertEqual(desk.told("ask aa a"), "world 11 00")
        desk = desk_of("letters ab", "order right", "pact abba = .")
        self.assertEqual(desk.told("ask ba ab"), "world 01 20 12")

    def test_open(self):
        desk = desk_of("letters ab", "pact ba = ab")
        self.assertEqual(desk.told("ask " + BEYOND + " " + BEYOND), "open")
        self.assertEqual(desk_of("letters abcde", "pact bb = ba").told("ask a b"), "open")

    def test_as_many_rooms_as_can_be_without_more_than_1000_tables(self):
        # Lists that are not whole, and words that need two rooms or three.
        for letters, rooms in (("ab", 3), ("abc", 2), ("abcd", 2), ("abcde", 1), ("abcdef", 1)):
            for pact, needed in (("bb = ba", 2), ("abba = .", 3)):
                desk = desk_of("letters " + letters, "order right" if needed == 3 else "order length", "pact " + pact)
                question = "ask a b" if needed == 2 else "ask ba ab"
                answer = desk.told(question)
                self.assertEqual(answer.split(" ")[0], "world" if needed <= rooms else "open", (letters, answer))
                if needed <= rooms:
                    self.assertEqual(len(answer.split(" ")), needed + 1)

    def test_roads_of_40_uses_and_of_41(self):
        desk = desk_of("letters ab", "pact ba = ab")
        self.assertEqual(desk.told("ask " + WITHIN + " ."), "forms " + "a" * 10 + "b" * 4 + " ., ba = ab by 0>0")
        self.assertEqual(desk.told("ask " + BEYOND + " ."), "world 01 10")

    def test_one_word_and_three(self):
        desk = desk_of("letters ab")
        for row in ("ask ab", "ask ", "ask .", "ask c", "ask " + "a" * 21):
            self.refused(desk, NoRow, row)
        self.refused(desk, NoWord, "ask ab ba ab", 2)
        self.refused(desk, NoWord, "ask ab ba ", 2)
        self.refused(desk, NoWord, "ask ab . .", 0)

    def test_nothing_ahead_of_the_blank_or_behind_it(self):
        desk = desk_of("letters ab")
        self.refused(desk, NoWord, "ask  ", 0)
        self.refused(desk, NoWord, "ask ab ", 0)
        self.refused(desk, NoWord, "ask  ab", 0)

    def test_the_first_is_read_first(self):
        desk = desk_of("letters ab")
        self.refused(desk, NoWord, "ask aac c", 2)
        self.refused(desk, NoWord, "ask aa abbc", 3)
        self.refused(desk, NoWord, "ask c ", 0)
        self.refused(desk, NoWord, "ask abc ", 2)
        self.refused(desk, NoWord, "ask " + "a" * 21 + " c", 20)

    def test_words_of_20_letters_and_of_21(self):
        desk = desk_of("letters ab")
        self.assertEqual(desk.told("ask " + "a" * 20 + " " + "b" * 20), "forms " + "a" * 20 + " " + "b" * 20)
        self.refused(desk, NoWord, "ask " + "a" * 21 + " b", 20)
        self.refused(desk, NoWord, "ask b " + "a" * 21, 20)

    def test_as_judging_tells(self):
        shapes = set()
        words = ["", "a", "b", "ab", "ba", "bab", "abba", "b" + "a" * 8 + "b", "b" + "a" * 9]
        for rows, pacts in (
            (MIRRORS, [("aa", ""), ("bb", ""), ("bab", "aba")]), (["pact bb = ba"], [("bb", "ba")]),
            (["pact abba = ."], [("abba", "")]), (["pact aa = b", "pact bb = ."], [("aa", "b"), ("bb", "")]),
        ):
            for row, order in (("order length", Order("ab")), ("order right", FromRight("ab"))):
                desk = desk_of("letters ab", row, *rows)
                for one, other in itertools.product(words, repeat=2):
                    answer = judged(order, pacts, one, other, 3, 3)
                    text = answer[0]
                    if answer[0] == "alike":
                        text += " " + shown_steps(answer[1])
                    if answer[0] == "forms":
                        text += " " + shown_word(answer[2]) + " " + shown_word(answer[3])
                        text += "".join(", " + shown_entry(entry) for entry in answer[1])
                    if answer[0] == "world":
                        text += "".join(" " + "".join(map(str, line)) for line in answer[1])
                    self.assertEqual(desk.told("ask " + shown_word(one) + " " + shown_word(other)), text)
                    shapes.add(answer[0])
        self.assertEqual(shapes, {"alike", "forms", "world", "open"})


class Kept(Rows):
    WRONG = [
        ("letters aa", NoLetters), ("letters ", NoLetters), ("letters", NoRow), ("order", NoRow), ("order left", NoRow),
        ("order weights 1", NoOrder), ("order weights 1 0", NoOrder), ("order weights 1 1000001", NoOrder),
        ("pact ab", NoPact), ("pact ab = c", NoWord), ("pact c = ab", NoWord), ("pact " + "a" * 11 + " = b", NoWord),
        ("form c", NoWord), ("form " + "a" * 21, NoWord), ("ask ab", NoRow), ("ask c b", NoWord), ("ask a c", NoWord),
        ("drop ", NoRow), ("rules ", NoRow), ("", NoRow), ("nothing", NoRow),
    ]
    QUESTIONS = ["rules", "form bab", "form ab", "ask ab ba", "ask a b", "ask bab baa"]

    def test_a_refused_row_between_two_questions(self):
        for setting in (
            ["order right", "pact ba = ab"], MIRRORS, ["pact bb = ba"], [], ["order weights 1 9", "pact b = aa"],
        ):
            desk = desk_of("letters ab", *setting)
            answers = [desk.told(question) for question in self.QUESTIONS]
            for row, refusal in self.WRONG:
                self.refused(desk, refusal, row)
                self.assertEqual([desk.told(question) for question in self.QUESTIONS], answers, row)

    def test_a_ninth_pact_between_two_questions(self):
        desk = desk_of("letters ab", *["pact ab = ba"] * 8)
        answers = [desk.told(question) for question in self.QUESTIONS]
        self.refused(desk, TooMany, "pact a = b")
        self.assertEqual([desk.told(question) for question in self.QUESTIONS], answers)

    def test_a_refused_drop(self):
        desk = desk_of("letters ab", "order right")
        self.refused(desk, NoRow, "drop")
        desk.told("pact ba = ab")
        self.assertEqual(desk.told("rules"), "whole, ab = ba by 0<0")

    def test_questions_change_nothing(self):
        desk = desk_of("letters ab", "order right", *MIRRORS)
        answers = {question: desk.told(question) for question in self.QUESTIONS}
        for question in self.QUESTIONS[::-1] + self.QUESTIONS * 2:
            self.assertEqual(desk.told(question), answers[question])
        self.assertEqual([desk.told("drop") for times in range(3)], MIRRORS[::-1])

    def test_each_answer_goes_by_what_was_told_up_to_then(self):
        desk = desk_of("letters ab")
        self.assertEqual(desk.told("ask ab ba"), "forms ab ba")
        desk.told("pact ab = ba")
        self.assertEqual(desk.told("ask ab ba"), "alike 0>0")
        desk.told("order right")
        self.assertEqual(desk.told("form ba"), "form ba")
        desk.told("order length")
        self.assertEqual(desk.told("form ba"), "form ab")
        desk.told("drop")
        self.assertEqual(desk.told("ask ab ba"), "forms ab ba")
        desk.told("letters ba")
        self.assertEqual(desk.told("ask ab ba"), "forms ab ba")

    def test_kinds(self):
        desk = desk_of("letters ab")
        for row in ROWS + ["pact bb = ba", "rules", "ask a b", "ask bab baa"]:
            self.assertIs(type(desk.told(row)), str)


class Interface(unittest.TestCase):
    def test_arguments(self):
        self.assertEqual(str(inspect.signature(Desk)), "()")
        self.assertEqual(str(inspect.signature(Desk.told)), "(self, row)")


if __name__ == "__main__":
    unittest.main()

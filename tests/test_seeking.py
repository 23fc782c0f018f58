import copy
import inspect
import itertools
import unittest

from letterlaw import seeking as module
from letterlaw.errors import TooMany
from letterlaw.seeking import tables_within, world_apart
from letterlaw.worlds import World

# For each number of letters the least number of rooms with which there are more than 1,000 tables.
TOO_MANY = {"a": 5, "ab": 4, "abc": 3, "abcd": 3, "abcde": 2, "abcdef": 2}


def words_up_to(letters, length):
    return ["".join(word) for size in range(length + 1) for word in itertools.product(letters, repeat=size)]


def tables(letters, rooms):
    row = [list(numbers) for numbers in itertools.product(range(rooms), repeat=len(letters))]
    return [list(table) for table in itertools.product(row, repeat=rooms)]


def led(letters, table, room, word):
    for letter in word:
        room = table[room][letters.index(letter)]
    return room


def tells_apart_by_the_point(letters, table, pacts, one, other):
    for left, right in pacts:
        for room in range(len(table)):
            if led(letters, table, room, left) != led(letters, table, room, right):
                return False
    return led(letters, table, 0, one) != led(letters, table, 0, other)


def apart_by_the_point(letters, pacts, one, other, most):
    for rooms in range(1, most + 1):
        for table in tables(letters, rooms):
            if tells_apart_by_the_point(letters, table, pacts, one, other):
                return table
    return None


class Within(unittest.TestCase):
    def test_as_the_point_tells(self):
        for count, rooms in itertools.product(range(1, 7), range(1, 9)):
            with self.subTest(letters=count, rooms=rooms):
                within = rooms ** (rooms * count) <= 1000
                self.assertIs(tables_within("fedcba"[:count], rooms), within)

    def test_one_room(self):
        for count in range(1, 7):
            self.assertIs(tables_within("abcdef"[:count], 1), True)

    def test_just_below_1000_and_just_above(self):
        # 729 tables and 1,024: no number of tables lies nearer.
        self.assertIs(tables_within("ab", 3), True)
        self.assertIs(tables_within("abcde", 2), False)
        self.assertIs(tables_within("a", 4), True)
        self.assertIs(tables_within("abcd", 2), True)
        self.assertIs(tables_within("a", 5), False)

    def test_eight_rooms(self):
        for count in range(1, 7):
            self.assertIs(tables_within("abcdef"[:count], 8), False)


class Apart(unittest.TestCase):
    def refused(self, *arguments):
        with self.assertRaises(TooMany) as caught:
            world_apart(*arguments)
        self.assertIs(type(caught.exception), TooMany)

    def test_the_first_that_can_be(self):
        self.assertEqual(world_apart("a", [], "a", "", 4), [[1], [0]])
        self.assertEqual(world_apart("ab", [], "b", "", 3), [[0, 1], [0, 0]])
        self.assertEqual(world_apart("ab", [], "a", "b", 3), [[0, 1], [0, 0]])
        self.assertEqual(world_apart("abcd", [], "d", "c", 2), [[0, 0, 0, 1], [0, 0, 0, 0]])

    def test_the_last_of_two_rooms(self):
        self.assertEqual(world_apart("a", [("aa", "a")], "a", "", 2), [[1], [1]])
        self.assertEqual(world_apart("ab", [("aa", "a"), ("a", "b")], "", "b", 3), [[1, 1], [1, 1]])
        self.assertEqual(
            world_apart("abcd", [("aa", "a"), ("a", "b"), ("c", "d"), ("d", "b")], "abcd", "", 2), [[1] * 4] * 2,
        )

    def test_in_the_middle(self):
        self.assertEqual(world_apart("ab", [("aa", ""), ("bb", "")], "ab", "", 3), [[0, 1], [1, 0]])
        self.assertEqual(world_apart("ab", [("aa", ""), ("b", "")], "aba", "b", 2), None)
        self.assertEqual(world_apart("ab", [("aa", ""), ("bb", "b")], "ba", "ab", 2), [[1, 0], [0, 0]])
        self.assertEqual(world_apart("ab", [("aa", ""), ("bbb", "")], "ba", "ab", 2), None)
        self.assertEqual(world_apart("ab", [("aa", ""), ("bbb", "")], "ba", "ab", 3), [[0, 1], [2, 2], [1, 0]])

    def test_rooms_that_are_needed(self):
        self.assertIsNone(world_apart("a", [("aaa", "")], "a", "", 2))
        self.assertEqual(world_apart("a", [("aaa", "")], "a", "", 3), [[1], [2], [0]])
        self.assertEqual(world_apart("a", [("aaa", "")], "a", "", 4), [[1], [2], [0]])
        self.assertIsNone(world_apart("a", [("aaaa", "")], "aa", "", 3))
        self.assertEqual(world_apart("a", [("aaaa", "")], "aa", "", 4), [[1], [2], [3], [0]])
        self.assertIsNone(world_apart("a", [("aaaaa", "")], "aa", "", 4))

    def test_fewer_rooms_first(self):
        # With three rooms there is a table of lesser numbers.
        pacts = [("b", "aaa")]
        self.assertTrue(tells_apart_by_the_point("ab", [[1, 0], [2, 1], [0, 2]], pacts, "", "aa"))
        self.assertEqual(world_apart("ab", pacts, "", "aa", 3), [[1, 1], [1, 1]])
        self.assertEqual(world_apart("ab", pacts, "", "aa", 2), [[1, 1], [1, 1]])
        self.assertEqual(world_apart("ab", pacts, "", "a", 3), [[1, 1], [0, 0]])

    def test_one_room(self):
        for count in range(1, 7):
            letters = "abcdef"[:count]
            for pacts in ([], [("a", "")]):
                self.assertIsNone(world_apart(letters, pacts, "a", "", 1))

    def test_two_words_that_are_the_same(self):
        for letters, most in (("a", 4), ("ab", 3), ("abc", 2), ("abcd", 2), ("abcdef", 1)):
            for pacts in ([], [("a", "")], [("aa", "a"), ("", "aaa")]):
                for word in ("", "a", "aa" + letters):
                    self.assertIsNone(world_apart(letters, pacts, word, word, most))

    def test_two_words_that_are_the_same_by_the_pacts(self):
        self.assertIsNone(world_apart("ab", [("ab", "ba")], "aabb", "baba", 3))
        self.assertIsNone(world_apart("ab", [("a", ""), ("", "b")], "ab", "", 3))

    def test_from_room_0_not_from_whatever_room(self):
        # In the first table of two rooms "a" and "" lead to unlike rooms from room 1 alone.
        self.assertEqual(World("a", [[0], [0]]).parted("a", ""), 1)
        self.assertEqual(world_apart("a", [], "a", "", 2), [[1], [0]])

    def test_pacts_hold_from_each_room_not_from_room_0_alone(self):
        # In [[0, 1], [0, 0]] "a" and "" lead from room 0 to the same room, but not from room 1.
        self.assertEqual(world_apart("ab", [("bb", "")], "b", "", 2), [[0, 1], [0, 0]])
        self.assertEqual(world_apart("ab", [("bb", ""), ("a", "")], "b", "", 2), [[0, 1], [1, 0]])

    def test_each_pact_counts(self):
        pacts = [("bb", ""), ("aa", "a"), ("ab", "a")]
        for kept in itertools.chain(*[itertools.combinations(pacts, size) for size in range(4)]):
            with self.subTest(kept):
                found = world_apart("ab", list(kept), "ba", "ab", 3)
                self.assertEqual(found, apart_by_the_point("ab", list(kept), "ba", "ab", 3))

    def test_letters_in_their_own_order(self):
        self.assertEqual(world_apart("ba", [], "b", "", 2), [[1, 0], [0, 0]])
        self.assertEqual(world_apart("ba", [], "a", "", 2), [[0, 1], [0, 0]])
        self.assertEqual(world_apart("zy", [("yy", ""), ("z", "")], "y", "", 2), [[0, 1], [1, 0]])

    def test_as_the_point_tells_of_one_letter(self):
        words = words_up_to("a", 4)
        for left, right, one, other in itertools.product(words, repeat=4):
            for most in (2, 4):
                found = world_apart("a", [(left, right)], one, other, most)
                self.assertEqual(found, apart_by_the_point("a", [(left, right)], one, other, most))

    def test_as_the_point_tells_of_more_letters(self):
        for letters, most in (("ba", 3), ("abc", 2), ("dbca", 2)):
            sides = list(itertools.product(words_up_to(letters, 2), repeat=2))
            for number in range(60):
                pacts = [sides[number * step % len(sides)] for step in (11, 29, 53)[number % 3:]]
                one, other = sides[(number * 37 + 5) % len(sides)]
                with self.subTest(pacts, one=one, other=other):
                    found = world_apart(letters, pacts, one, other, most)
                    self.assertEqual(found, apart_by_the_point(letters, pacts, one, other, most))

    def test_too_many_whatever_the_pacts_and_words(self):
        for letters, rooms in TOO_MANY.items():
            for most in range(rooms, 9):
                for pacts in ([], [("a", "")], [("a", "a")], [("aa", ""), ("aaa", "")]):
                    self.refused(letters, pacts, "a", "", most)
                    self.refused(letters, pacts, "a", "a", most)
                    self.refused(letters, pacts, "", "", most)

    def test_one_room_fewer_is_not_too_many(self):
        for letters, rooms in TOO_MANY.items():
            found = world_apart(letters, [], "a", "", rooms - 1)
            self.assertEqual(found, apart_by_the_point(letters, [], "a", "", rooms - 1))

    def test_many_pacts_and_long_words(self):
        pacts = [("a" * 60, "a" * (20 + number)) for number in range(0, 40, 2)] + [("b" * 60, "b" * 58)] * 20
        one, other = "a" * 59, "a" * 60
        self.assertEqual(world_apart("ab", pacts, one, other, 3), apart_by_the_point("ab", pacts, one, other, 3))


class Lists(unittest.TestCase):
    def test_nothing_is_changed(self):
        pacts = [("aa", ""), ("bb", "b")]
        world_apart("ab", pacts, "ba", "ab", 3)
        self.assertEqual(pacts, [("aa", ""), ("bb", "b")])

    def test_the_table_is_the_askers_own(self):
        pacts = [("aa", ""), ("bbb", "")]
        table = world_apart("ab", pacts, "ba", "ab", 3)
        kept = copy.deepcopy(table)
        table[0][0] = 2
        table[1].clear()
        table.pop()
        second = world_apart("ab", pacts, "ba", "ab", 3)
        self.assertEqual(second, kept)
        pacts.clear()
        world_apart("ab", pacts, "ba", "ab", 3)
        self.assertEqual(second, kept)

    def test_rows_are_not_one_list(self):
        table = world_apart("ab", [("aa", "a"), ("a", "b")], "", "b", 3)
        table[0][0] = 0
        self.assertEqual(table, [[0, 1], [1, 1]])

    def test_kinds(self):
        table = world_apart("ab", [("aa", ""), ("bb", "b")], "ba", "ab", 3)
        self.assertIs(type(table), list)
        for row in table:
            self.assertIs(type(row), list)
            self.assertEqual([type(room) for room in row], [int, int])


class Interface(unittest.TestCase):
    def test_arguments(self):
        self.assertEqual(str(inspect.signature(module.tables_within)), "(letters, rooms)")
        self.assertEqual(str(inspect.signature(module.world_apart)), "(letters, pacts, one, other, most)")


if __name__ == "__main__":
    unittest.main()

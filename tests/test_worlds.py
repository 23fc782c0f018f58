import inspect
import itertools
import unittest

from letterlaw.completing import completed
from letterlaw.errors import NoLetters, NoWorld, TooMany
from letterlaw.orders import Order
from letterlaw.thinning import system_by
from letterlaw.worlds import World

# Of "ab": "a" goes round three rooms, "b" changes rooms 1 and 2.
THREE = [[1, 0], [2, 2], [0, 1]]
# Of "ab": letters that lead one room on and back, among eight.
EIGHT = [[(room + 1) % 8, (room - 1) % 8] for room in range(8)]


def words_up_to(letters, length):
    return ["".join(word) for size in range(length + 1) for word in itertools.product(letters, repeat=size)]


def tables(letters, rooms):
    row = list(itertools.product(range(rooms), repeat=len(letters)))
    return [[list(numbers) for numbers in table] for table in itertools.product(row, repeat=rooms)]


def led_by_the_point(letters, table, room, word):
    for letter in word:
        room = table[room][list(letters).index(letter)]
    return room


class Made(unittest.TestCase):
    def refused(self, refusal, letters, table):
        with self.assertRaises(refusal) as caught:
            World(letters, table)
        self.assertIs(type(caught.exception), refusal)

    def test_one_room(self):
        world = World("abc", [[0, 0, 0]])
        self.assertEqual(world.rooms(), 1)
        self.assertEqual(world.letters, "abc")
        self.assertEqual(world.table_told(), [[0, 0, 0]])
        self.assertEqual(world.led(0, "abccba"), 0)

    def test_eight_rooms(self):
        world = World("ab", EIGHT)
        self.assertEqual(world.rooms(), 8)
        self.assertEqual(world.table_told(), EIGHT)
        self.assertEqual(world.led(0, "aaa"), 3)
        self.assertEqual(world.led(7, "a"), 0)
        self.assertEqual(world.led(0, "b"), 7)

    def test_no_room(self):
        self.refused(NoWorld, "ab", [])

    def test_nine_rooms(self):
        self.refused(NoWorld, "a", [[0]] * 9)
        self.refused(NoWorld, "ab", [[room, room] for room in range(9)])

    def test_rows_too_short_and_too_long(self):
        for row in ([], [0], [0, 0, 0]):
            self.refused(NoWorld, "ab", [row])
            self.refused(NoWorld, "ab", [[0, 1], row])
            self.refused(NoWorld, "ab", [row, [0, 1]])
        self.refused(NoWorld, "a", [[]])

    def test_numbers_below_0_and_of_no_room(self):
        for number in (-1, -2, 2, 3, 8, 10 ** 20, -10 ** 20):
            self.refused(NoWorld, "ab", [[0, 1], [1, number]])
            self.refused(NoWorld, "ab", [[number, 1], [1, 0]])
        self.refused(NoWorld, "a", [[1]])
        self.refused(NoWorld, "a", [[-1]])
        self.refused(NoWorld, "a", [[0]] * 7 + [[8]])
        self.assertEqual(World("a", [[0]] * 7 + [[7]]).rooms(), 8)

    def test_letters_go_first(self):
        for letters in ("", "aa", "abcdefg", "aB", "a b", "a1", "\u00e4"):
            self.refused(NoLetters, letters, [[0] * len(letters)])
            for table in ([], [[0]] * 9, [[-1] * len(letters)], [[0] * 9]):
                self.refused(NoLetters, letters, table)

    def test_letters_in_their_own_order(self):
        world = World("ba", THREE)
        self.assertEqual(world.letters, "ba")
        self.assertEqual([world.led(0, "b"), world.led(0, "a")], [1, 0])

    def test_what_is_kept_is_its_own(self):
        table = [list(row) for row in THREE]
        world = World("ab", table)
        self.assertEqual(table, THREE)
        table[0][0] = 2
        table[1].clear()
        table.append([0, 0])
        self.assertEqual(world.table_told(), THREE)
        self.assertEqual(world.led(0, "a"), 1)
        self.assertEqual(world.rooms(), 3)

    def test_the_table_told_is_the_askers_own(self):
        world = World("ab", THREE)
        table = world.table_told()
        table[0][0] = 2
        table[1].clear()
        table.pop()
        self.assertEqual(world.table_told(), THREE)
        self.assertEqual(world.led(0, "ab"), 2)
        kept = world.table_told()
        world.table_told()[2][1] = 0
        self.assertEqual(kept, THREE)

    def test_rows_that_are_one_list(self):
        row = [0, 1]
        world = World("ab", [row, row])
        world.table_told()[0][0] = 1
        row[0] = 1
        self.assertEqual(world.table_told(), [[0, 1], [0, 1]])
        table = world.table_told()
        table[0][0] = 1
        self.assertEqual(table, [[1, 1], [0, 1]])

    def test_kinds(self):
        world = World("ab", THREE)
        self.assertIs(type(world.rooms()), int)
        self.assertIs(type(world.table_told()), list)
        for row in world.table_told():
            self.assertIs(type(row), list)
            self.assertEqual([type(room) for room in row], [int, int])


class Led(unittest.TestCase):
    def test_the_empty_word(self):
        for table in ([[0, 0]], THREE, EIGHT):
            world = World("ab", table)
            self.assertEqual([world.led(room, "") for room in range(world.rooms())], list(range(world.rooms())))

    def test_from_the_first_letter_to_the_last(self):
        world = World("ab", THREE)
        self.assertEqual(world.led(0, "ab"), 2)
        self.assertEqual(world.led(0, "ba"), 1)
        self.assertEqual(world.led(0, "aab"), 1)
        self.assertEqual(world.led(1, "ab"), 1)
        self.assertEqual(world.led(2, "ab"), 0)

    def test_a_long_word(self):
        self.assertEqual(World("ab", EIGHT).led(0, "a" * 60), 4)
        self.assertEqual(World("ab", EIGHT).led(3, "ab" * 500), 3)

    def test_six_letters(self):
        world = World("fedcba", [[0, 1, 2, 3, 4, 5]] + [[5, 4, 3, 2, 1, 0]] * 5)
        self.assertEqual([world.led(0, letter) for letter in "abcdef"], [5, 4, 3, 2, 1, 0])
        self.assertEqual([world.led(1, letter) for letter in "abcdef"], [0, 1, 2, 3, 4, 5])

    def test_as_the_point_tells(self):
        for table in tables("ab", 2) + [THREE, EIGHT]:
            world = World("ba", table)
            for room, word in itertools.product(range(len(table)), words_up_to("ab", 4)):
                self.assertEqual(world.led(room, word), led_by_the_point("ba", table, room, word))


class Pacts(unittest.TestCase):
    def test_holds(self):
        world = World("ab", THREE)
        self.assertIs(world.holds(("aaa", "")), True)
        self.assertIs(world.holds(("", "bb")), True)
        self.assertIs(world.holds(("aba", "b")), True)
        self.assertIs(world.holds(("ab", "ab")), True)
        self.assertIs(world.holds(("", "")), True)

    def test_does_not_hold(self):
        world = World("ab", THREE)
        self.assertIs(world.holds(("ab", "ba")), False)
        self.assertIs(world.holds(("", "a")), False)

    def test_holds_from_each_room_not_from_room_0_alone(self):
        world = World("ab", THREE)
        self.assertEqual(world.led(0, "b"), 0)
        self.assertIs(world.holds(("b", "")), False)
        self.assertIs(World("ab", [[0, 0], [1, 0]]).holds(("b", "")), False)
        last = [[room, room] for room in range(7)] + [[7, 6]]
        self.assertIs(World("ab", last).holds(("a", "b")), False)

    def test_rooms_that_no_word_leads_to_count(self):
        world = World("a", [[0], [0]])
        self.assertIs(world.holds(("a", "")), False)
        self.assertEqual(world.broken([("a", "")]), (0, 1))
        self.assertEqual(world.parted("a", ""), 1)
        self.assertIs(world.reached().holds(("a", "")), True)

    def test_everything_holds_in_one_room(self):
        world = World("ab", [[0, 0]])
        self.assertEqual(world.broken([("a", "b"), ("", "ab"), ("ba", "ab")]), None)

    def test_broken(self):
        world = World("ab", THREE)
        self.assertIsNone(world.broken([]))
        self.assertIsNone(world.broken([("aaa", ""), ("bb", ""), ("", "abab")]))
        self.assertEqual(world.broken([("b", "")]), (0, 1))
        self.assertEqual(world.broken([("aaa", ""), ("b", ""), ("a", ""), ("bb", "")]), (1, 1))
        self.assertEqual(world.broken([("aaa", ""), ("a", ""), ("b", "")]), (1, 0))
        self.assertEqual(world.broken([("bb", ""), ("aaa", ""), ("a", "ab")]), (2, 0))

    def test_parted(self):
        world = World("ab", THREE)
        self.assertEqual(world.parted("b", ""), 1)
        self.assertEqual(world.parted("a", ""), 0)
        self.assertEqual(world.parted("ab", "ba"), 0)
        self.assertEqual(world.parted("a", "ab"), 0)
        self.assertEqual(world.parted("a", "ba"), 1)
        self.assertIsNone(world.parted("aaa", "bb"))
        self.assertIsNone(world.parted("", ""))

    def test_the_last_room_parts(self):
        world = World("ab", [[room, room] for room in range(7)] + [[7, 6]])
        self.assertEqual(world.parted("a", "b"), 7)
        self.assertEqual(world.broken([("a", ""), ("b", "a"), ("b", "")]), (1, 7))

    def test_as_the_point_tells(self):
        words = words_up_to("ab", 2)
        pacts = list(itertools.product(words, repeat=2))
        for table in tables("ab", 2) + [THREE]:
            world = World("ab", table)
            failing = []
            for number, (one, other) in enumerate(pacts):
                rooms = [
                    room for room in range(len(table))
                    if led_by_the_point("ab", table, room, one) != led_by_the_point("ab", table, room, other)
                ]
                self.assertEqual(world.parted(one, other), rooms[0] if rooms else None)
                self.assertIs(world.holds((one, other)), not rooms)
                failing += [(number, rooms[0])] if rooms else []
            for start in range(0, len(pacts), 7):
                later = [(number - start, room) for number, room in failing if number >= start]
                self.assertEqual(world.broken(pacts[start:]), later[0] if later else None)

    def test_nothing_is_changed(self):
        pacts = [("aaa", ""), ("b", "")]
        World("ab", THREE).broken(pacts)
        self.assertEqual(pacts, [("aaa", ""), ("b", "")])

    def test_kinds(self):
        world = World("ab", THREE)
        told = world.broken([("b", "")])
        self.assertIs(type(told), tuple)
        self.assertEqual([type(part) for part in told], [int, int])
        self.assertIs(type(world.parted("a", "")), int)

    def test_words_that_a_world_parts_have_unlike_forms(self):
        # Where each told pact holds, a whole list of rules brings words that are parted to unlike forms.
        pacts = [("aaa", ""), ("bb", ""), ("abab", "")]
        world = World("ab", THREE)
        self.assertIsNone(world.broken(pacts))
        whole, kept = completed(Order("ab"), pacts, 6)
        self.assertTrue(whole)
        system = system_by(Order("ab"), kept)
        for one, other in itertools.product(words_up_to("ab", 4), repeat=2):
            if world.parted(one, other) is not None:
                self.assertNotEqual(system.shortest(one), system.shortest(other))


class Crossed(unittest.TestCase):
    def refused(self, refusal, one, other):
        with self.assertRaises(refusal) as caught:
            one.crossed(other)
        self.assertIs(type(caught.exception), refusal)

    def test_pairs_of_rooms(self):
        one, other = World("ab", [[1, 0], [1, 1]]), World("ab", THREE)
        self.assertEqual(one.crossed(other).table_told(), [[4, 0], [5, 2], [3, 1], [4, 3], [5, 5], [3, 4]])
        self.assertEqual(other.crossed(one).table_told(), [[3, 0], [3, 1], [5, 4], [5, 5], [1, 2], [1, 3]])
        self.assertEqual(one.crossed(other).letters, "ab")

    def test_with_itself(self):
        two = World("a", [[1], [0]])
        self.assertEqual(two.crossed(two).table_told(), [[3], [2], [1], [0]])

    def test_with_one_room(self):
        one = World("ab", [[0, 0]])
        for table in (THREE, EIGHT, [[0, 0]]):
            self.assertEqual(one.crossed(World("ab", table)).table_told(), table)
            self.assertEqual(World("ab", table).crossed(one).table_told(), table)

    def test_each_letter_leads_in_both_at_once(self):
        for table, beside in itertools.product(tables("ab", 2), [THREE, [[1, 0], [0, 1]]]):
            one, other = World("ba", table), World("ba", beside)
            both = one.crossed(other)
            self.assertEqual(both.rooms(), one.rooms() * other.rooms())
            for i, j in itertools.product(range(one.rooms()), range(other.rooms())):
                for word in ("a", "b", "ab", "bba"):
                    self.assertEqual(
                        both.led(i * other.rooms() + j, word),
                        one.led(i, word) * other.rooms() + other.led(j, word),
                    )

    def test_eight_rooms_and_nine(self):
        two, three, four = [World("a", [[0]] * size) for size in (2, 3, 4)]
        self.assertEqual(two.crossed(four).rooms(), 8)
        self.assertEqual(four.crossed(two).rooms(), 8)
        self.assertEqual(two.crossed(two).crossed(two).rooms(), 8)
        self.assertEqual(two.crossed(three).rooms(), 6)
        self.refused(TooMany, three, three)
        self.refused(TooMany, four, three)
        self.refused(TooMany, three, four)
        self.refused(TooMany, World("ab", EIGHT), World("ab", EIGHT))
        self.refused(TooMany, World("ab", EIGHT), World("ab", [[0, 0], [0, 0]]))

    def test_other_letters(self):
        self.refused(NoWorld, World("a", [[0]]), World("b", [[0]]))
        self.refused(NoWorld, World("a", [[0]]), World("ab", [[0, 0]]))
        self.refused(NoWorld, World("ab", [[0, 0]]), World("a", [[0]]))
        self.refused(NoWorld, World("ab", [[0, 0]]), World("ac", [[0, 0]]))

    def test_the_same_letters_in_another_order(self):
        self.refused(NoWorld, World("ab", [[0, 0]]), World("ba", [[0, 0]]))
        self.refused(NoWorld, World("ab", THREE), World("ba", [[0, 0]]))

    def test_other_letters_go_ahead_of_too_many_rooms(self):
        self.refused(NoWorld, World("ab", EIGHT), World("ba", EIGHT))
        self.refused(NoWorld, World("ab", EIGHT), World("a", [[0], [1]]))

    def test_what_holds_in_both_holds_where_they_are_crossed(self):
        one, other = World("ab", [[1, 0], [0, 1]]), World("ab", THREE)
        both = one.crossed(other)
        for pact in itertools.product(words_up_to("ab", 3), repeat=2):
            self.assertIs(both.holds(pact), one.holds(pact) and other.holds(pact))

    def test_nothing_is_changed_and_nothing_shared(self):
        one, other = World("ab", [[1, 0], [1, 1]]), World("ab", THREE)
        both = one.crossed(other)
        self.assertIs(type(both), World)
        both.table_told()[0][0] = 0
        self.assertEqual(both.table_told(), [[4, 0], [5, 2], [3, 1], [4, 3], [5, 5], [3, 4]])
        self.assertEqual(one.table_told(), [[1, 0], [1, 1]])
        self.assertEqual(other.table_told(), THREE)


class Reached(unittest.TestCase):
    def reached_by_the_point(self, letters, table):
        old = [0]
        for at in range(len(table)):
            if at < len(old):
                for number in range(len(letters)):
                    room = table[old[at]][number]
                    if room not in old:
                        old.append(room)
        anew = {room: at for at, room in enumerate(old)}
        return [[anew[room] for room in table[place]] for place in old]

    def test_all_are_reached(self):
        self.assertEqual(World("ab", THREE).reached().table_told(), THREE)
        self.assertEqual(World("ab", [[0, 0]]).reached().table_told(), [[0, 0]])

    def test_rooms_that_no_word_leads_to(self):
        self.assertEqual(World("ab", [[0, 0], [1, 0], [2, 1]]).reached().table_told(), [[0, 0]])
        self.assertEqual(World("ab", [[2, 0], [0, 0], [2, 0]]).reached().table_told(), [[1, 0], [1, 0]])
        self.assertEqual(World("a", [[room] for room in range(8)]).reached().table_told(), [[0]])

    def test_numbered_as_they_are_met(self):
        self.assertEqual(World("ab", [[2, 1], [0, 0], [1, 2]]).reached().table_told(), [[1, 2], [2, 1], [0, 0]])
        self.assertEqual(World("a", [[3], [0], [1], [2]]).reached().table_told(), [[1], [2], [3], [0]])

    def test_room_by_room_not_as_far_as_each_letter_leads(self):
        # From room 0 to 5 and 3; then from 5 to 1, and only then from 3 to 4; 2 is met by nobody.
        table = [[5, 3], [1, 1], [0, 0], [4, 4], [4, 0], [1, 5]]
        self.assertEqual(World("ab", table).reached().table_told(), [[1, 2], [3, 1], [4, 4], [3, 3], [4, 0]])

    def test_letters_in_their_own_order(self):
        world = World("ba", [[2, 1], [1, 1], [2, 2]]).reached()
        self.assertEqual(world.letters, "ba")
        self.assertEqual(world.table_told(), [[1, 2], [1, 1], [2, 2]])

    def test_eight_rooms(self):
        self.assertEqual(World("ab", EIGHT).reached().table_told(), self.reached_by_the_point("ab", EIGHT))
        self.assertEqual(World("ab", EIGHT).reached().table_told(), [
            [1, 2], [3, 0], [0, 4], [5, 1], [2, 6], [7, 3], [4, 7], [6, 5],
        ])

    def test_as_the_point_tells(self):
        for table in tables("ab", 2) + tables("ab", 3)[::5] + tables("a", 4):
            letters = "ab"[:len(table[0])]
            world = World(letters, table)
            part = world.reached()
            self.assertEqual(part.table_told(), self.reached_by_the_point(letters, table))
            self.assertEqual(part.reached().table_told(), part.table_told())
            # Words lead to the same rooms in both.
            words = words_up_to(letters, 4)
            ends = {(world.led(0, word), part.led(0, word)) for word in words}
            self.assertEqual(len(ends), len({end[0] for end in ends}))
            self.assertEqual(sorted({end[1] for end in ends}), list(range(part.rooms())))
            self.assertEqual(len(ends), part.rooms())

    def test_of_two_that_are_crossed(self):
        both = World("ab", THREE).crossed(World("ab", [[1, 1], [0, 0]]))
        self.assertEqual(both.reached().table_told(), self.reached_by_the_point("ab", both.table_told()))
        two = World("a", [[1], [0]])
        self.assertEqual(two.crossed(two).reached().table_told(), [[1], [0]])

    def test_nothing_is_changed_and_nothing_shared(self):
        table = [[2, 1], [0, 0], [1, 2], [0, 0]]
        world = World("ab", table)
        part = world.reached()
        self.assertIs(type(part), World)
        part.table_told()[0][0] = 0
        self.assertEqual(part.table_told(), [[1, 2], [2, 1], [0, 0]])
        self.assertEqual(world.table_told(), table)
        self.assertEqual(world.rooms(), 4)


class Interface(unittest.TestCase):
    def test_arguments(self):
        self.assertEqual(str(inspect.signature(World)), "(letters, table)")
        told = {
            "rooms": "(self)", "table_told": "(self)", "led": "(self, room, word)", "holds": "(self, pact)",
            "broken": "(self, pacts)", "parted": "(self, one, other)", "crossed": "(self, other)",
            "reached": "(self)",
        }
        for name, arguments in told.items():
            self.assertEqual(str(inspect.signature(getattr(World, name))), arguments)

    def test_the_value_letters(self):
        world = World("ba", THREE)
        for told in (world, world.reached(), world.crossed(World("ba", [[0, 0]]))):
            self.assertEqual(told.letters, "ba")


if __name__ == "__main__":
    unittest.main()

import inspect
import itertools
import unittest

from letterlaw import chains
from letterlaw.chains import Chain, back, moved, used, walked
from letterlaw.errors import NoUse

PACTS = [("ab", "ba"), ("aa", ""), ("b", "bbb")]


class Refusing(unittest.TestCase):
    def at_refused(self, asked, *handed):
        with self.assertRaises(NoUse) as caught:
            asked(*handed)
        self.assertIs(type(caught.exception), NoUse)
        return caught.exception.at


class Used(Refusing):
    def test_forth(self):
        self.assertEqual(used(PACTS, "ab", (0, 0, True)), "ba")
        self.assertEqual(used(PACTS, "babab", (0, 3, True)), "babba")
        self.assertEqual(used(PACTS, "baab", (1, 1, True)), "bb")
        self.assertEqual(used(PACTS, "aba", (2, 1, True)), "abbba")

    def test_back(self):
        self.assertEqual(used(PACTS, "ba", (0, 0, False)), "ab")
        self.assertEqual(used(PACTS, "abbb", (2, 1, False)), "ab")

    def test_empty_side(self):
        self.assertEqual(used(PACTS, "bb", (1, 0, False)), "aabb")
        self.assertEqual(used(PACTS, "bb", (1, 1, False)), "baab")
        self.assertEqual(used(PACTS, "bb", (1, 2, False)), "bbaa")
        self.assertEqual(used(PACTS, "", (1, 0, False)), "aa")
        self.assertEqual(used([("", "")], "ab", (0, 2, True)), "ab")

    def test_a_pact_of_one_word_twice(self):
        self.assertEqual(used([("a", "a")], "ba", (0, 1, True)), "ba")
        self.assertEqual(self.at_refused(used, [("a", "a")], "ba", (0, 0, True)), 0)

    def test_words_may_grow(self):
        self.assertEqual(used([("a", "b" * 60)], "a" * 60, (0, 59, True)), "a" * 59 + "b" * 60)

    def test_number_of_no_pact(self):
        for number in (-1, -2, -3, -4, 3, 4, 10 ** 59, -(10 ** 59)):
            with self.subTest(number):
                self.assertEqual(self.at_refused(used, PACTS, "ababbb", (number, 0, True)), 0)
                self.assertEqual(self.at_refused(used, PACTS, "babbb", (number, 2, False)), 0)
        self.assertEqual(self.at_refused(used, [], "ab", (0, 0, True)), 0)
        self.assertEqual(self.at_refused(used, [], "ab", (-1, 0, True)), 0)
        self.assertEqual(self.at_refused(used, [("a", "b")], "a", (-1, 0, True)), 0)

    def test_place_beyond_the_word(self):
        for place in (-1, -2, -4, 2, 3, 4, 5, 10 ** 59, -(10 ** 59)):
            with self.subTest(place):
                self.assertEqual(self.at_refused(used, PACTS, "abb", (0, place, True)), 0)
                self.assertEqual(self.at_refused(used, PACTS, "baa", (0, place, False)), 0)
        for place in (-1, 3):
            self.assertEqual(self.at_refused(used, PACTS, "bb", (1, place, False)), 0)

    def test_another_side_stands_there(self):
        self.assertEqual(self.at_refused(used, PACTS, "ba", (0, 0, True)), 0)
        self.assertEqual(self.at_refused(used, PACTS, "ab", (0, 0, False)), 0)
        self.assertEqual(self.at_refused(used, PACTS, "", (2, 0, True)), 0)


class Walked(Refusing):
    def test_words_on_it(self):
        steps = [(0, 0, True), (2, 0, True), (0, 2, False), (1, 4, False)]
        self.assertEqual(walked(PACTS, "ab", steps), ["ab", "ba", "bbba", "bbab", "bbabaa"])

    def test_no_step(self):
        self.assertEqual(walked(PACTS, "ab", []), ["ab"])
        self.assertEqual(walked([], "", []), [""])

    def test_first_step_that_does_not_fit(self):
        good = (1, 0, False)
        for wrong in ((3, 0, True), (-1, 0, False), (0, 9, True), (0, -1, True), (2, 0, True)):
            for ahead in range(4):
                for behind in ([], [good], [wrong], [(7, 7, True), good]):
                    with self.subTest(wrong=wrong, ahead=ahead, behind=behind):
                        steps = [good] * ahead + [wrong] + behind
                        self.assertEqual(self.at_refused(walked, PACTS, "a", steps), ahead)
                        self.assertEqual(self.at_refused(Chain, PACTS, "a", steps), ahead)

    def test_each_step_in_the_word_behind_the_one_ahead(self):
        self.assertEqual(self.at_refused(walked, PACTS, "ab", [(0, 0, True), (0, 0, True)]), 1)
        self.assertEqual(walked(PACTS, "ab", [(0, 0, True), (0, 0, False)]), ["ab", "ba", "ab"])

    def test_nothing_is_changed_and_lists_are_new(self):
        pacts = list(PACTS)
        steps = [(0, 0, True)]
        told = walked(pacts, "ab", steps)
        told.append("a")
        self.assertEqual(pacts, PACTS)
        self.assertEqual(steps, [(0, 0, True)])
        self.assertEqual(walked(pacts, "ab", steps), ["ab", "ba"])

    def test_many_steps(self):
        steps = [(0, 0, at % 2 == 0) for at in range(3000)]
        told = walked(PACTS, "ab", steps)
        self.assertEqual(told, ["ab", "ba"] * 1500 + ["ab"])


class BackAndMoved(unittest.TestCase):
    def test_back(self):
        self.assertEqual(back([(3, 0, True), (12, 7, False)]), [(12, 7, True), (3, 0, False)])
        self.assertEqual(back([]), [])

    def test_kinds(self):
        step = back([(1, 2, True)])[0]
        self.assertIs(type(step), tuple)
        self.assertIs(step[2], False)
        self.assertIs(back([step])[0][2], True)

    def test_the_chain_back_leads_back(self):
        steps = [(0, 0, True), (2, 0, True), (0, 2, False), (1, 4, False)]
        words = walked(PACTS, "ab", steps)
        self.assertEqual(walked(PACTS, words[-1], back(steps)), words[::-1])

    def test_moved(self):
        self.assertEqual(moved([(3, 0, True), (12, 7, False)], 5), [(3, 5, True), (12, 12, False)])
        self.assertEqual(moved([(3, 0, True)], 0), [(3, 0, True)])
        self.assertEqual(moved([], 9), [])

    def test_nothing_is_changed_and_lists_are_new(self):
        for told in (back, lambda steps: moved(steps, 0), lambda steps: moved(steps, 3)):
            for steps in ([], [(0, 1, True)], [(0, 1, True), (2, 3, False)]):
                handed = list(steps)
                first = told(handed)
                self.assertIsNot(first, handed)
                kept = list(first)
                first.append((9, 9, True))
                self.assertEqual(handed, steps)
                self.assertEqual(told(handed), kept)


class ChainKept(Refusing):
    def setUp(self):
        self.steps = [(0, 0, True), (2, 0, True), (0, 2, False)]
        self.chain = Chain(PACTS, "ab", self.steps)

    def told(self, chain):
        self.assertIs(type(chain), Chain)
        self.assertEqual((chain.first(), chain.last()), (chain.words_on()[0], chain.words_on()[-1]))
        self.assertEqual(walked(PACTS, chain.first(), chain.steps_told()), chain.words_on())
        return (chain.words_on(), chain.steps_told())

    def test_tells(self):
        self.assertEqual(self.chain.first(), "ab")
        self.assertEqual(self.chain.last(), "bbab")
        self.assertEqual(self.chain.words_on(), ["ab", "ba", "bbba", "bbab"])
        self.assertEqual(self.chain.steps_told(), self.steps)

    def test_no_step(self):
        chain = Chain(PACTS, "ab", [])
        alone = (["ab"], [])
        for told in (chain, chain.turned(), chain.then(chain), chain.within("", ""), chain.straight()):
            self.assertEqual(self.told(told), alone)
        self.assertEqual(self.told(chain.within("b", "aa")), (["babaa"], []))
        self.assertEqual(self.told(chain.then(self.chain)), self.told(self.chain))
        self.assertEqual(self.told(self.chain.then(Chain(PACTS, "bbab", []))), self.told(self.chain))

    def test_walked_when_it_is_made(self):
        self.assertEqual(self.at_refused(Chain, PACTS, "ab", self.steps + [(0, 9, True)]), 3)
        self.assertEqual(self.at_refused(Chain, PACTS, "ba", self.steps), 0)
        self.assertEqual(self.at_refused(Chain, [], "ab", self.steps), 0)

    def test_turned(self):
        words, steps = self.told(self.chain.turned())
        self.assertEqual(words, ["bbab", "bbba", "ba", "ab"])
        self.assertEqual(steps, [(0, 2, True), (2, 0, False), (0, 0, False)])
        self.assertEqual(self.told(self.chain.turned().turned()), self.told(self.chain))

    def test_then(self):
        words, steps = self.told(self.chain.then(Chain(PACTS, "bbab", [(1, 4, False), (0, 2, True)])))
        self.assertEqual(words, ["ab", "ba", "bbba", "bbab", "bbabaa", "bbbaaa"])
        self.assertEqual(steps, self.steps + [(1, 4, False), (0, 2, True)])
        words, steps = self.told(self.chain.then(self.chain.turned()))
        self.assertEqual(words, ["ab", "ba", "bbba", "bbab", "bbba", "ba", "ab"])

    def test_then_of_another_word(self):
        for other in (self.chain, Chain(PACTS, "", []), Chain(PACTS, "bbba", [(0, 2, False)])):
            self.assertEqual(self.at_refused(self.chain.then, other), 3)
        self.assertEqual(self.at_refused(Chain(PACTS, "b", []).then, self.chain), 0)
        self.assertEqual(self.at_refused(Chain(PACTS, "b", [(2, 0, True)]).then, self.chain), 1)

    def test_then_of_another_word_in_which_the_steps_would_fit(self):
        self.assertEqual(self.at_refused(self.chain.then, Chain(PACTS, "bbb", [(2, 0, True)])), 3)

    def test_within(self):
        words, steps = self.told(self.chain.within("ba", "a"))
        self.assertEqual(words, ["baaba", "babaa", "babbbaa", "babbaba"])
        self.assertEqual(steps, [(0, 2, True), (2, 2, True), (0, 4, False)])
        words, steps = self.told(self.chain.within("", "bb"))
        self.assertEqual((words[0], words[-1], steps), ("abbb", "bbabbb", self.steps))

    def test_the_chain_stays_as_it_was(self):
        before = self.told(self.chain)
        self.chain.turned()
        self.chain.then(self.chain.turned())
        self.chain.within("a", "b")
        self.chain.straight()
        self.at_refused(self.chain.then, self.chain)
        self.assertEqual(self.told(self.chain), before)

    def test_lists_handed_in_are_not_kept(self):
        pacts = list(PACTS)
        steps = list(self.steps)
        chain = Chain(pacts, "ab", steps)
        self.assertEqual((pacts, steps), (PACTS, self.steps))
        before = self.told(chain)
        pacts.clear()
        steps.append((0, 0, True))
        self.assertEqual(self.told(chain), before)
        self.assertEqual(self.told(chain.turned().turned()), before)
        self.assertEqual(self.told(chain.straight()), before)
        self.assertEqual(chain.within("a", "").first(), "aab")
        self.assertEqual(self.told(chain.then(chain.turned()))[0], before[0] + before[0][-2::-1])

    def test_lists_told_are_the_askers_own(self):
        before = self.told(self.chain)
        self.chain.words_on().append("a")
        self.chain.words_on()[0] = "b"
        self.chain.steps_told().clear()
        self.assertEqual(self.told(self.chain), before)
        self.assertEqual(self.told(self.chain.turned().turned()), before)
        self.assertEqual(self.told(self.chain.straight()), before)

    def test_a_chain_made_of_another_is_its_own(self):
        turned = self.chain.turned()
        self.chain.steps_told().clear()
        longer = self.chain.then(turned)
        longer.steps_told().clear()
        self.assertEqual(len(self.chain.steps_told()), 3)
        self.assertEqual(len(turned.steps_told()), 3)
        self.assertEqual(len(longer.steps_told()), 6)


class Straight(unittest.TestCase):
    # Pacts between single letters: a chain can go from any letter to any other one.
    LETTERS = "abcd"
    PAIRS = list(itertools.combinations(LETTERS, 2))

    def along(self, letters):
        steps = []
        for one, other in zip(letters, letters[1:]):
            forth = (one, other) in self.PAIRS
            steps.append((self.PAIRS.index((one, other) if forth else (other, one)), 0, forth))
        return Chain(self.PAIRS, letters[0], steps)

    def straight(self, letters):
        return "".join(self.along(letters).straight().words_on())

    def test_no_word_twice(self):
        self.assertEqual(self.straight("abcd"), "abcd")
        self.assertEqual(self.straight("abcbd"), "abd")
        self.assertEqual(self.straight("abcdbd"), "abd")

    def test_back_at_its_first_word(self):
        self.assertEqual(self.straight("aba"), "a")
        self.assertEqual(self.straight("abcda"), "a")
        self.assertEqual(self.straight("abacab"), "ab")

    def test_ends_at_the_first_coming_to_the_last_word(self):
        self.assertEqual(self.straight("abcb"), "ab")
        self.assertEqual(self.straight("adbd"), "ad")

    def test_the_last_step_that_leaves_the_word(self):
        self.assertEqual(self.straight("abacad"), "ad")
        self.assertEqual(self.straight("abcbadbc"), "adbc")

    def test_the_steps_are_those_of_the_chain(self):
        pacts = [("a", "b"), ("b", "a"), ("b", "c"), ("a", "b")]
        chain = Chain(pacts, "a", [(0, 0, True), (1, 0, True), (3, 0, True), (2, 0, True)])
        self.assertEqual(chain.straight().steps_told(), [(3, 0, True), (2, 0, True)])
        chain = Chain(pacts, "a", [(3, 0, True), (0, 0, False), (1, 0, False), (2, 0, True)])
        self.assertEqual(chain.straight().steps_told(), [(1, 0, False), (2, 0, True)])

    def test_a_step_that_changes_nothing(self):
        chain = Chain([("a", "a"), ("a", "b")], "a", [(0, 0, True), (1, 0, True), (1, 0, False), (0, 0, False)])
        self.assertEqual((chain.straight().words_on(), chain.straight().steps_told()), (["a"], []))
        chain = Chain([("a", "a"), ("a", "b")], "a", [(0, 0, True), (1, 0, True)])
        self.assertEqual(chain.straight().steps_told(), [(1, 0, True)])

    def test_every_short_chain(self):
        for size in range(1, 7):
            for letters in itertools.product(self.LETTERS, repeat=size):
                word = "".join(letters)
                if any(one == other for one, other in zip(word, word[1:])):
                    continue
                told = word[0]
                while told[-1] != word[-1]:
                    told = told + word[word.rindex(told[-1]) + 1]
                self.assertEqual(self.straight(word), told)
                self.assertEqual(len(set(told)), len(told))

    def test_a_long_chain(self):
        self.assertEqual(self.straight("abc" * 999 + "d"), "abcd")


class Interface(unittest.TestCase):
    def test_arguments(self):
        told = {
            "used": "(pacts, word, step)", "walked": "(pacts, word, steps)", "back": "(steps)",
            "moved": "(steps, size)", "Chain": "(pacts, word, steps)",
        }
        for name, arguments in told.items():
            self.assertEqual(str(inspect.signature(getattr(chains, name))), arguments)
        chain = Chain([], "", [])
        methods = {
            "first": "()", "last": "()", "words_on": "()", "steps_told": "()", "turned": "()", "then": "(other)",
            "within": "(ahead, behind)", "straight": "()",
        }
        for name, arguments in methods.items():
            self.assertEqual(str(inspect.signature(getattr(chain, name))), arguments)


if __name__ == "__main__":
    unittest.main()

"""Point [20]: sets of texts."""

import itertools
import unittest

from passtexts.errors import BadProgram, BadSet, BadWord, TooLarge, Unlike
from passtexts.programs import Program
from passtexts.sets import TextSet, both, domain, either, least, parting, without
from tests.helpers import COPY_MOVES, PLAIN_MOVES, Digits, counted, doubling, echo, ending, every_text


def some_set(number, letters="ab", most=3):
    """The set with this number."""
    digits = Digits(number)
    states = 1 + digits.take(most)
    steps = [{letter: digits.take(states) for letter in letters} for _ in range(states)]
    return TextSet(letters, steps, [state for state in range(states) if digits.take(2)])


def multiples(many, letters="ab", counted_letter="a", rest=0):
    """The texts in which the number of some letter is a multiple of a number, and a rest more."""
    steps = [{letter: (state + 1) % many if letter == counted_letter else state for letter in letters}
             for state in range(many)]
    return TextSet(letters, steps, [rest])


def ends_in(word):
    """The texts of the letters a and b that end in a word."""
    def behind(told, letter):
        text = word[:told] + letter
        return max(size for size in range(len(text) + 1) if text.endswith(word[:size]) and size <= len(word))

    return TextSet("ab", [{letter: behind(told, letter) for letter in "ab"} for told in range(len(word) + 1)],
                   [len(word)])


def goes_on(texts, state, longest):
    """Which short texts lead from a state to an end."""
    return tuple(texts.after(text, state) in texts.ends for text in every_text(texts.letters, longest))


class Sets(unittest.TestCase):
    def test_attributes(self):
        steps = [{"b": 1, "a": 0}, {"a": 1, "b": 1}]
        texts = TextSet("ba", steps, [1, 0, 1])
        self.assertEqual((texts.letters, texts.steps, texts.ends), ("ab", [{"a": 0, "b": 1}, {"a": 1, "b": 1}], [0, 1]))
        self.assertEqual([list(told) for told in texts.steps], [["a", "b"], ["a", "b"]])
        self.assertEqual(len(texts), 2)
        texts = TextSet("0", ({"0": 0},), ())
        self.assertEqual((texts.letters, texts.steps, texts.ends), ("0", [{"0": 0}], []))
        self.assertIsInstance(texts.steps, list)
        self.assertIsInstance(TextSet("a", ({"a": 0},), (0,)).ends, list)

    def test_in(self):
        for number in range(60):
            texts = some_set(number, "ab" if number % 3 else "0ab")
            for text in every_text(texts.letters, 4):
                state = 0
                for letter in text:
                    state = texts.steps[state][letter]
                self.assertIs(text in texts, state in texts.ends)
                self.assertEqual(texts.after(text), state)

    def test_in_for_what_is_no_text_of_its_letters(self):
        texts = TextSet("ab", [{"a": 0, "b": 0}], [0])
        for wrong in ("c", "abc", "A", " ", "a b", "\n", None, 1, True, [], ["a"], ("a",), {}, b"a", {"a": 1}, texts):
            self.assertIs(wrong in texts, False)
        self.assertIs("" in texts, True)

    def test_far_texts(self):
        texts = multiples(7)
        self.assertIn("aab" * 700, texts)
        self.assertNotIn("aab" * 701, texts)
        self.assertEqual(texts.after("aab" * 701, 3), 5)

    def test_after(self):
        texts = ends_in("aab")
        for state in range(4):
            self.assertEqual(texts.after("", state), state)
            self.assertEqual(texts.after("a", state), texts.steps[state]["a"])
            self.assertEqual(texts.after("baab", state), 3)
        for wrong, place in ((None, None), (1, None), (["a"], None), (b"a", None), ("c", 0), ("abca", 2), ("a ", 1)):
            for asked in (texts.after, lambda text: texts.after(text, 2)):
                with self.assertRaises(BadWord) as caught:
                    asked(wrong)
                self.assertEqual(caught.exception.place, place)

    def test_first(self):
        for number in range(120):
            texts = some_set(number, "ab", 5)
            found = texts.first()
            self.assertEqual(found, next((text for text in every_text("ab", 5) if text in texts), None))
        self.assertEqual(ends_in("abba").first(), "abba")
        self.assertEqual(multiples(60, "ba", "b", 59).first(), "b" * 59)
        self.assertIsNone(TextSet("ab", [{"a": 0, "b": 0}, {"a": 1, "b": 1}], [1]).first())
        self.assertEqual(TextSet("ba", [{"a": 1, "b": 1}, {"a": 0, "b": 0}], [1]).first(), "a")

    def test_equal(self):
        one = TextSet("ab", [{"a": 0, "b": 1}, {"a": 1, "b": 0}], [0])
        self.assertEqual(one, TextSet("ba", ({"b": 1, "a": 0}, {"b": 0, "a": 1}), (0, 0)))
        same = TextSet("ab", [{"a": 0, "b": 2}, {"a": 1, "b": 0}, {"a": 1, "b": 0}], [0])
        for other in (TextSet("ab", one.steps, [1]), TextSet("ab", one.steps, []), same, "ab", None, one.steps,
                      TextSet("ab", [{"a": 0, "b": 0}, {"a": 1, "b": 0}], [0]),
                      TextSet("ac", [{"a": 0, "c": 1}, {"a": 1, "c": 0}], [0])):
            self.assertNotEqual(one, other)
        self.assertIsNone(parting(one, same))

    def test_the_greatest_set(self):
        self.assertEqual(len(multiples(60, "abcd")), 60)

    def test_copied(self):
        steps = [{"a": 0, "b": 1}, {"a": 1, "b": 0}]
        ends = [0]
        texts = TextSet("ab", steps, ends)
        steps[0]["a"] = 1
        steps.append(steps[0])
        ends.append(1)
        self.assertEqual((texts.steps, texts.ends), ([{"a": 0, "b": 1}, {"a": 1, "b": 0}], [0]))
        told = {"a": 0, "b": 0}
        texts = TextSet("ab", [told, told], [1])
        self.assertIsNot(texts.steps[0], texts.steps[1])


class Wrong(unittest.TestCase):
    def check(self, part, letters, steps, ends):
        with self.assertRaises(BadSet) as caught:
            TextSet(letters, steps, ends)
        self.assertEqual(caught.exception.part, part)

    def test_letters(self):
        for wrong in ("", "aa", "abcde", "A", "a b", None, 1, ["a", "b"], ("a",), {"a": 1}, b"ab"):
            self.check("letters", wrong, None, None)

    def test_steps(self):
        good = {"a": 0, "b": 0}
        for wrong in ([], (), None, 1, "ab", {0: good}, [None], [good, None], [[0, 0]], [{"a": 0}],
                      [{"a": 0, "b": 0, "c": 0}], [{"a": 0, "c": 0}], [{"a": 0, "b": 1}], [{"a": 0, "b": -1}],
                      [{"a": 0, "b": True}], [{"a": False, "b": 0}], [{"a": 0, "b": None}], [{"a": 0, "b": "0"}],
                      [{"a": 0, "": 0}], [{"a": 0, "ab": 0}], [{"a": 0, 1: 0}], [{"a": 0, None: 0}],
                      [{"a": 0, "b": 1.0}, good], [good] * 61):
            self.check("steps", "ab", wrong, None)
        self.assertEqual(len(TextSet("ab", [good] * 60, [59])), 60)

    def test_ends(self):
        for wrong in (None, 0, "0", {0: 1}, {0}, [1], [-1], [True], [False], [None], ["0"], [0, 1], [0.0], [[0]]):
            self.check("ends", "ab", [{"a": 0, "b": 0}], wrong)

    def test_which_comes_first(self):
        self.check("letters", "aa", [], [7])
        self.check("steps", "ab", [], [7])


class Least(unittest.TestCase):
    def check_least(self, texts, longest=8):
        """Checks that no two states go on alike, and that they are numbered as they come first."""
        met = []
        for text in every_text(texts.letters, longest):
            state = texts.after(text)
            if state not in met:
                met.append(state)
        self.assertEqual(met, list(range(len(texts))))
        self.assertEqual(len({goes_on(texts, state, longest) for state in range(len(texts))}), len(texts))

    def test_the_same_texts_and_least(self):
        for number in range(80):
            texts = some_set(number, "ab", 6)
            found = least(texts)
            self.assertIsInstance(found, TextSet)
            self.check_least(found, 6)
            for text in every_text("ab", 6):
                self.assertEqual(text in found, text in texts)
            self.assertEqual(least(found), found)

    def test_least_sets_of_the_same_texts_are_equal(self):
        twice = TextSet("ab", [{"a": 3, "b": 2}, {"a": 0, "b": 1}, {"a": 1, "b": 0}, {"a": 2, "b": 3}], [0, 2])
        self.assertEqual(least(twice), multiples(2))
        steps = [{"a": 2, "b": 2}, {"a": 1, "b": 1}, {"a": 1, "b": 2}]
        self.assertEqual(least(TextSet("ab", steps, [1])),
                         TextSet("ab", [{"a": 1, "b": 1}, {"a": 2, "b": 1}, {"a": 2, "b": 2}], [2]))
        self.assertEqual(least(TextSet("ab", [{"a": 1, "b": 1}, {"a": 0, "b": 0}], [0, 1])),
                         TextSet("ab", [{"a": 0, "b": 0}], [0]))
        self.assertEqual(least(TextSet("ab", [{"a": 1, "b": 1}, {"a": 0, "b": 0}, {"a": 2, "b": 2}], [2])),
                         TextSet("ab", [{"a": 0, "b": 0}], []))

    def test_long_chains(self):
        self.assertEqual(least(multiples(60)), multiples(60))
        word = "ab" * 29 + "a"
        self.assertEqual(least(ends_in(word)), ends_in(word))

    def test_new_and_unchanged(self):
        texts = multiples(3)
        found = least(texts)
        found.steps[0]["a"] = 2
        found.ends.append(1)
        found.steps.pop()
        self.assertEqual(texts, multiples(3))
        self.assertEqual(least(texts), multiples(3))

    def test_both_either_without(self):
        for number in range(60):
            one, other = some_set(number), some_set(number + 5000)
            told = ((both, lambda here, there: here and there), (either, lambda here, there: here or there),
                    (without, lambda here, there: here and not there))
            for made, holds in told:
                found = made(one, other)
                self.check_least(found)
                for text in every_text("ab", 7):
                    self.assertEqual(text in found, holds(text in one, text in other))

    def test_far_texts(self):
        one, other = multiples(6), multiples(10, "ab", "b")
        found = both(one, other)
        self.assertEqual(len(found), 60)
        for text in ("ab" * 300, "a" * 600 + "b" * 200, "ba" * 301, "a" * 599 + "b" * 200):
            self.assertEqual(text in found, text in one and text in other)
            self.assertEqual(text in either(one, other), text in one or text in other)
            self.assertEqual(text in without(one, other), text in one and text not in other)

    def test_parting(self):
        for number in range(150):
            one, other = some_set(number), some_set(number + 3000)
            found = parting(one, other)
            text = next((text for text in every_text("ab", 9) if (text in one) != (text in other)), None)
            self.assertEqual(found, text)
            self.assertEqual(found, parting(other, one))
        self.assertIsNone(parting(multiples(4), multiples(4)))
        self.assertEqual(parting(ends_in("ababa"), ends_in("bbaba")), "ababa")
        self.assertEqual(parting(multiples(59, "a"), multiples(60, "a")), "a" * 59)
        self.assertEqual(parting(both(multiples(6, "a"), multiples(10, "a")), multiples(60, "a")), "a" * 30)

    def test_parting_takes_large_sets(self):
        # the set of the texts in just one of them has more than 60 states
        last = TextSet("a", [{"a": min(state + 1, 59)} for state in range(60)], [59])
        self.assertEqual(parting(multiples(60, "a", "a", 59), last), "a" * 60)
        self.assertEqual(parting(multiples(59, "a", "a", 58), multiples(60, "a", "a", 59)), "a" * 58)
        two = multiples(59, "ab"), multiples(60, "ab", "b")
        self.assertEqual(parting(*two), "a")

    def test_domain(self):
        for number in range(80):
            program = counted(number, "ab", 1 + number % 4, PLAIN_MOVES + COPY_MOVES)
            found = domain(program)
            self.check_least(found, 5)
            for text in every_text("ab", 5):
                self.assertEqual(text in found, program(text) is not None)
        self.assertEqual(domain(ending(echo("ab", 300), {state: () for state in range(0, 300, 5)})),
                         TextSet("ab", [{"a": (state + 1) % 5, "b": (state + 1) % 5} for state in range(5)], [0]))
        self.assertEqual(domain(doubling()), TextSet("ab", [{"a": 0, "b": 0}], [0]))
        self.assertEqual(domain(ending(echo("ba"), {})), TextSet("ab", [{"a": 0, "b": 0}], []))

    def test_domain_of_a_program_with_registers_that_grow(self):
        steps = {(0, "a"): (0, {"x": (("x",), ("x",))})}
        program = Program("a", 1, ["x"], {"x": "a"}, steps, {0: (("x",),)})
        self.assertIn("a" * 500, domain(program))

    def test_new_sets(self):
        one, other = multiples(2), multiples(3, "ab", "b")
        for made in (both, either, without):
            found = made(one, other)
            for told, texts in itertools.product(found.steps, (one, other)):
                self.assertFalse(any(told is part for part in texts.steps))
            found.steps[0]["a"] = 0
            found.ends.clear()
            self.assertNotEqual(made(one, other), found)
        self.assertEqual([one, other], [multiples(2), multiples(3, "ab", "b")])
        program = echo()
        domain(program).ends.clear()
        self.assertEqual(domain(program).ends, [0])

    def test_too_large(self):
        one, other = multiples(7), multiples(9, "ab", "b")
        for made in (both, either, without):
            with self.assertRaises(TooLarge):
                made(one, other)
            with self.assertRaises(TooLarge):
                made(multiples(59), multiples(60))
            self.assertLessEqual(len(made(multiples(6), multiples(10, "ab", "b"))), 60)
        self.assertEqual(both(multiples(6, "a"), multiples(10, "a")), multiples(30, "a"))
        self.assertEqual(parting(one, other), "a")
        with self.assertRaises(TooLarge):
            domain(ending(echo("ab", 61), {0: ()}))
        self.assertEqual(len(domain(ending(echo("ab", 60), {0: ()}))), 60)
        with self.assertRaises(TooLarge):
            domain(ending(echo("ab", 300), {299: ()}))

    def test_many_places_of_one_kind(self):
        # 60 times 59 pairs, but for few kinds of them
        self.assertEqual(len(both(multiples(60), TextSet("ab", [{"a": (s + 1) % 59, "b": s} for s in range(59)], []))), 1)
        every = TextSet("ab", [{"a": (s + 1) % 59, "b": s} for s in range(59)], list(range(59)))
        self.assertEqual(both(multiples(60), every), multiples(60))


class Refused(unittest.TestCase):
    def test_no_sets(self):
        good = multiples(2)
        for asked in (both, either, without, parting):
            for one, other in ((None, good), (good, None), ("ab", 1), (1, multiples(2, "abc")), (good, [good])):
                with self.assertRaises(BadSet) as caught:
                    asked(one, other)
                self.assertIsNone(caught.exception.part)
            for one, other in ((good, multiples(2, "abc")), (multiples(59, "abc"), multiples(60))):
                with self.assertRaises(Unlike) as caught:
                    asked(one, other)
                self.assertEqual(caught.exception.what, "letters")
        for wrong in (None, "ab", 1, [good], echo()):
            with self.assertRaises(BadSet) as caught:
                least(wrong)
            self.assertIsNone(caught.exception.part)

    def test_no_program(self):
        for wrong in (None, "ab", 1, multiples(2)):
            with self.assertRaises(BadProgram) as caught:
                domain(wrong)
            self.assertIsNone(caught.exception.part)

"""Point [12]: what is written for a word so many times, without writing it out."""

import unittest

from passtexts.errors import BadNumber, BadProgram, BadWord, NotPlain
from passtexts.powers import Written, written_for
from passtexts.programs import Program
from passtexts.thrifty import is_plain
from tests.helpers import copying, counted, doubling, echo, ending

MANY = 10 ** 12


def turning(end=()):
    """Writes the text turned about, and something behind it."""
    steps = {(0, letter): (0, {"x": (letter, ("x",))}) for letter in "ab"}
    return Program("ab", 1, ["x"], {}, steps, {0: (("x",), *end)})


def mirrored():
    """Writes the text, and the text turned about behind it."""
    steps = {(0, letter): (0, {"x": (("x",), letter), "y": (letter, ("y",))}) for letter in "ab"}
    return Program("ab", 1, ["x", "y"], {"x": "0", "y": "1"}, steps, {0: (("x",), "c", ("y",))})


def around(states):
    """Goes around with the letter a, and writes the state for b; refuses texts that end in the last state."""
    steps = {(state, "a"): ((state + 1) % states, {}) for state in range(states)}
    steps.update({(state, "b"): (state, {"x": (("x",), str(state))}) for state in range(states)})
    return Program("ab", states, ["x"], {}, steps, {state: (("x",),) for state in range(states - 1)})


def exchanging():
    """Registers that change places, are put together, and are emptied, by the letter."""
    steps = {(0, "a"): (1, {"x": (("y",), "a"), "y": (("x",),)}), (1, "a"): (2, {"x": (("x",), ("y",)), "y": ()}),
             (2, "a"): (1, {"y": (("x",), "c"), "x": ("b",)}), (0, "b"): (0, {}), (1, "b"): (1, {"y": ("d", ("y",))}),
             (2, "b"): (0, {"x": (), "y": ("e",)})}
    return Program("ab", 3, ["x", "y"], {"x": "0", "y": "1"}, steps, {state: (("y",), "9", ("x",)) for state in range(3)})


class ForAllNumbers(unittest.TestCase):
    def check(self, program, ahead, word, many, behind):
        found = written_for(program, ahead, word, many, behind)
        written = program(ahead + word * many + behind)
        if written is None:
            self.assertIsNone(found)
            return
        self.assertIsInstance(found, Written)
        self.assertEqual(found.size(), len(written))
        self.assertEqual("".join(found.part(start, min(start + 1000, len(written)))
                                 for start in range(0, len(written), 1000)), written)
        for first in range(0, len(written), 7):
            self.assertEqual(found.sign(first), written[first])
            self.assertEqual(found.part(first, min(first + 5, len(written))), written[first:first + 5])
        self.assertEqual(found.part(len(written), len(written)), "")

    def test_against_writing_it_out(self):
        for number in range(90):
            program = counted(number, "ab", 1 + number % 4)
            self.assertTrue(is_plain(program))
            word = ("a", "ab", "", "bba", "baab")[number % 5]
            for many in (0, 1, 2, 3, 5, 8, 13):
                self.check(program, "ba"[:number % 3], word, many, "abb"[:number % 4])

    def test_larger_programs(self):
        for program in (mirrored(), turning(("c",)), around(7), exchanging(), echo("ab", 5)):
            for many in (0, 1, 2, 6, 7, 8, 31, 100, 255, 256, 257):
                for ahead, word, behind in (("", "a", ""), ("b", "ab", "a"), ("abab", "aab", "bbb"), ("", "", "ab"),
                                            ("aa", "aaabaaa", "")):
                    self.check(program, ahead, word, many, behind)

    def test_very_many_times(self):
        found = written_for(turning(("c",)), "a", "ab", MANY, "b")
        self.assertEqual(found.size(), 2 * MANY + 3)
        self.assertEqual(found.part(0, 6), "bbabab")
        self.assertEqual(found.part(2 * MANY - 2, 2 * MANY + 3), "abaac")
        self.assertEqual([found.sign(place) for place in (0, 1, 2, MANY, MANY + 1, 2 * MANY + 2)], list("bbaabc"))
        found = written_for(mirrored(), "b", "a", MANY, "b")
        self.assertEqual(found.size(), 2 * MANY + 7)
        self.assertEqual(found.part(MANY - 1, MANY + 9), "aaa" + "bcb" + "aaaa")
        self.assertEqual(found.part(0, 3) + found.part(2 * MANY + 4, 2 * MANY + 7), "0ba" + "ab1")
        self.assertEqual(found.part(MANY + 100, MANY + 1100), "a" * 1000)

    def test_rings_of_states(self):
        for many in (MANY, MANY - 1, MANY - 7, 999999999989):
            for states in (2, 3, 7, 11):
                found = written_for(around(states), "", "a", many, "b")
                if many % states == states - 1:
                    self.assertIsNone(found)
                else:
                    self.assertEqual(found.part(0, found.size()), str(many % states))
        found = written_for(around(7), "aab", "ab", MANY - 5, "")
        self.assertEqual(found.size(), MANY - 4)
        self.assertEqual([found.sign(place) for place in range(9)], list("234560123"))
        self.assertEqual([found.sign(place) for place in (MANY - 6, MANY - 5)],
                         [str((place + 2) % 7) for place in (MANY - 6, MANY - 5)])

    def test_states_ahead_of_a_ring(self):
        steps = {(state, "a"): (min(state + 1, 5), {"x": (("x",), str(state))}) for state in range(6)}
        program = Program("a", 6, ["x"], {}, steps, {state: (("x",),) for state in range(6)})
        found = written_for(program, "", "a", MANY, "")
        self.assertEqual((found.size(), found.part(0, 9), found.sign(MANY - 1)), (MANY, "012345555", "5"))
        for many in range(12):
            self.check(program, "", "a", many, "aa")
            self.check(program, "a", "aa", many, "")

    def test_numbers_near_powers(self):
        for many in (2 ** 20 - 1, 2 ** 20, 2 ** 20 + 1, 3 ** 20, MANY):
            found = written_for(mirrored(), "", "ab", many, "")
            self.assertEqual(found.size(), 4 * many + 3)
            self.assertEqual(found.part(2 * many - 1, 2 * many + 5), "abcbab")

    def test_texts_of_some_hundred_letters(self):
        word = "abbab" * 60
        for program in (mirrored(), around(11), exchanging()):
            for many in (0, 1, 3):
                self.check(program, word + "a", word, many, "b" + word)
        found = written_for(mirrored(), word, word, MANY, word)
        self.assertEqual(found.size(), 600 * (MANY + 2) + 3)
        self.assertEqual(found.part(300 * (MANY + 2) - 299, 300 * (MANY + 2) + 304), word + "c" + word[::-1] + "ba")

    def test_many_states_and_registers(self):
        names = [first + second for first in "abcdef" for second in "abcdefghij"]
        steps = {(state, letter): ((state + 1) % 300, {name: ((names[place - 1],), letter if place % 7 == 0 else "")
                                                       for place, name in enumerate(names)})
                 for state in range(300) for letter in "ab"}
        program = Program("ab", 300, names, {names[0]: "c"}, steps,
                          {state: tuple((name,) for name in names) for state in range(300)})
        for many in (0, 1, 299, 300, 301, 700):
            self.check(program, "ab", "b", many, "a")
        self.assertEqual(written_for(program, "", "ab", MANY, "a").size(), 9 * (2 * MANY + 1) + 1)

    def test_refused(self):
        self.assertIsNone(written_for(ending(echo("ab", 2), {0: (("x",),)}), "", "ab", MANY, "a"))
        self.assertIsNotNone(written_for(ending(echo("ab", 2), {0: (("x",),)}), "a", "ab", MANY, "a"))
        self.assertIsNone(written_for(ending(echo(), {}), "", "a", 0, ""))

    def test_nothing_written(self):
        found = written_for(ending(echo(), {0: ()}), "a", "ab", MANY, "b")
        self.assertEqual((found.size(), found.part(0, 0)), (0, ""))
        found = written_for(echo(), "", "", MANY, "")
        self.assertEqual((found.size(), found.part(0, 0)), (0, ""))
        found = written_for(echo(), "", "ab", 0, "")
        self.assertEqual((found.size(), found.part(0, 0)), (0, ""))

    def test_asked_again_and_unchanged(self):
        program = mirrored()
        self.assertEqual(written_for(program, "a", "ab", MANY, "b"), written_for(program, "a", "ab", MANY, "b"))
        self.assertNotEqual(written_for(program, "a", "ab", MANY, "b"), written_for(program, "a", "ab", 7, "b"))
        self.assertNotEqual(written_for(program, "a", "ab", 1, "b"), "abab")
        self.assertEqual(program, mirrored())


class Refused(unittest.TestCase):
    def test_programs(self):
        for wrong in (None, 1, "ab", [echo()]):
            with self.assertRaises(BadProgram) as caught:
                written_for(wrong, None, None, None, None)
            self.assertIsNone(caught.exception.part)
        for wrong in (doubling(), copying()):
            with self.assertRaises(NotPlain):
                written_for(wrong, None, None, None, None)

    def test_words(self):
        for texts, place in (((None, "c", 1), None), (("abc", None, None), 2), (("a", 1, None), None),
                             (("a", "ca", None), 0), (("a", "b", None), None), (("a", "b", "abab "), 4),
                             (("a", "b", ["a"]), None), (("A", "b", "c"), 0)):
            with self.assertRaises(BadWord) as caught:
                written_for(echo(), texts[0], texts[1], -1, texts[2])
            self.assertEqual(caught.exception.place, place)

    def test_numbers_of_times(self):
        for wrong in (-1, MANY + 1, True, False, None, "1", 1.0, [1], 10 ** 40, -10 ** 40):
            with self.assertRaises(BadNumber):
                written_for(echo(), "a", "b", wrong, "")
        self.assertEqual(written_for(echo(), "a", "b", MANY, "").size(), MANY + 1)

    def test_signs(self):
        found = written_for(echo(), "a", "b", 5, "")
        for wrong in (-1, 6, 7, True, None, "0", 1.0, (0,), 10 ** 30):
            with self.assertRaises(BadNumber):
                found.sign(wrong)
        self.assertEqual("".join(found.sign(place) for place in range(6)), "abbbbb")
        with self.assertRaises(BadNumber):
            written_for(echo(), "", "", 5, "").sign(0)

    def test_parts(self):
        found = written_for(echo(), "a", "b", 3000, "")
        for first, last in ((-1, 2), (2, 1), (0, 3002), (3001, 3002), (0, 1001), (2000, 3001), (None, 1), (0, None),
                            (False, 1), (0, True), ("0", 1), (0, 1.0), (-5, -2), (3002, 3002), (0, 10 ** 30)):
            with self.assertRaises(BadNumber):
                found.part(first, last)
        self.assertEqual(found.part(0, 1000), "a" + "b" * 999)
        self.assertEqual(found.part(2001, 3001), "b" * 1000)
        self.assertEqual((found.part(3001, 3001), found.part(0, 0), found.part(17, 17)), ("", "", ""))

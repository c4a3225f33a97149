"""Point [11]: whether one word may always stand in the place of another one."""

import unittest
from unittest import mock

from passtexts.errors import BadProgram, BadWord, NotThrifty, TooLarge
from passtexts.programs import Program
from passtexts.rules import Broken, Respected, exchanged, ignored, judge_rule
from passtexts.thrifty import judge_thrifty
from tests.helpers import COPY_MOVES, PLAIN_MOVES, copying, counted, doubling, echo, ending, every_text

WORDS = ("", "a", "b", "ab", "ba", "aa", "aab", "bbb")


def sorting(states=1, letters="abc"):
    """Writes the letters a first, then the letters b, and so on; refuses texts but of so many letters times some."""
    steps = {(state, letter): ((state + 1) % states, {letter * 2: ((letter * 2,), letter)})
             for state in range(states) for letter in letters}
    return Program(letters, states, [letter * 2 for letter in letters], {}, steps,
                   {0: tuple((letter * 2,) for letter in letters)})


def only(kept, letters="abc"):
    """Writes some letters alone."""
    steps = {(0, letter): (0, {"x": (("x",), letter)} if letter in kept else {}) for letter in letters}
    return Program(letters, 1, ["x"], {}, steps, {0: (("x",),)})


def differing(program, left, right, longest):
    """The first pair of texts ahead and behind by which unlike things are written, None without one."""
    for ahead in every_text(program.letters, longest):
        for behind in every_text(program.letters, longest):
            if program(ahead + left + behind) != program(ahead + right + behind):
                return ahead, behind
    return None


def some_programs(many):
    for number in range(many):
        letters = "ab" if number % 4 else "a"
        program = counted(number, letters, 1 + number % 3, PLAIN_MOVES + COPY_MOVES)
        if judge_thrifty(program):
            yield program


class Judged(unittest.TestCase):
    def check(self, program, left, right, longest):
        found = judge_rule(program, left, right)
        self.assertTrue(found.shows(program, left, right))
        if found:
            self.assertEqual(found, Respected())
            self.assertIsNone(differing(program, left, right, longest))
        else:
            self.assertIsInstance(found, Broken)
            self.assertNotEqual(program(found.ahead + left + found.behind), program(found.ahead + right + found.behind))
        return bool(found)

    def test_against_all_short_texts(self):
        kinds = {True: 0, False: 0}
        for number, program in enumerate(some_programs(110)):
            words = WORDS if program.letters == "ab" else ("", "a", "aa", "aaa")
            left, right = words[number % len(words)], words[(number * 3 + 1) % len(words)]
            kinds[self.check(program, left, right, 3 if program.letters == "ab" else 6)] += 1
        self.assertGreater(min(kinds.values()), 20)

    def test_without_reading_texts_first(self):
        with mock.patch("passtexts.deciding.FEW", 0), mock.patch("passtexts.deciding.MANY", 0):
            for number, program in enumerate(some_programs(60)):
                if program.letters == "ab":
                    self.check(program, WORDS[number % 8], WORDS[(number * 5 + 3) % 8], 3)

    def test_rules(self):
        for program, left, right, respected in (
                (sorting(), "ab", "ba", True), (sorting(), "abcabc", "ccbbaa", True), (sorting(), "aa", "a", False),
                (sorting(), "", "", True), (sorting(), "c", "c", True), (sorting(2), "a", "aaa", False),
                (only("a"), "b", "", True), (only("a"), "bcb", "ccc", True), (only("a"), "bab", "a", True),
                (only("a"), "a", "", False), (only("ab"), "ab", "ba", False), (only(""), "abcabc", "", True),
                (echo("abc"), "ab", "ab", True), (echo("abc"), "ab", "ba", False), (echo("abc"), "a", "", False)):
            found = judge_rule(program, left, right)
            self.assertIs(bool(found), respected)
            self.assertTrue(found.shows(program, left, right))
            self.assertEqual(bool(judge_rule(program, right, left)), respected)

    def test_refused_texts_count(self):
        even = ending(echo("ab", 2), {0: ("a",)})
        self.assertTrue(judge_rule(even, "aa", ""))
        self.assertTrue(judge_rule(even, "abab", "ba"))
        self.assertFalse(judge_rule(even, "a", ""))
        self.assertTrue(judge_rule(ending(even, {}), "a", ""))
        last = Program("ab", 2, [], {}, {(state, "ab"[number]): (number, {}) for state in (0, 1) for number in (0, 1)},
                       {1: ("c",)})
        self.assertTrue(judge_rule(last, "ab", "b"))
        self.assertTrue(judge_rule(last, "aaaaaa", "a"))
        self.assertFalse(judge_rule(last, "", "a"))
        self.assertFalse(judge_rule(last, "ba", ""))

    def test_what_comes_ahead_and_behind(self):
        # only behind three letters b, and with two letters a behind, it is told whether a word is a or b
        steps = {(state, "b"): (min(state + 1, 3), {}) for state in range(3)}
        steps.update({(state, "a"): (0, {}) for state in range(3)})
        steps.update({(3, "a"): (4, {"x": ("a",)}), (3, "b"): (4, {"x": ("b",)}), (4, "a"): (5, {}), (4, "b"): (0, {}),
                      (5, "a"): (6, {}), (5, "b"): (0, {}), (6, "a"): (6, {}), (6, "b"): (6, {})})
        program = Program("ab", 7, ["x"], {}, steps, {6: (("x",),)})
        found = judge_rule(program, "a", "b")
        self.assertFalse(found)
        self.assertTrue(found.shows(program, "a", "b"))
        self.assertTrue(Broken("bbb", "aa").shows(program, "a", "b"))
        self.assertFalse(Broken("bb", "aa").shows(program, "a", "b"))
        self.assertFalse(Broken("bbb", "a").shows(program, "a", "b"))

    def test_first_contents_and_rows_at_the_end(self):
        steps = {(0, "a"): (0, {"x": ("b", ("x",), "b")})}
        program = Program("a", 1, ["x"], {"x": "b"}, steps, {0: ("c", ("x",), "c")})
        self.assertFalse(judge_rule(program, "a", "aa"))
        self.assertTrue(judge_rule(ending(program, {0: ("c",)}), "a", "aa"))
        cleared = Program("a", 1, ["x"], {"x": "b"}, {(0, "a"): (0, {"x": ("b",)})}, {0: ("c", ("x",), "c")})
        self.assertTrue(judge_rule(cleared, "aaaaaa", ""))

    def test_copies_that_are_thrown_away(self):
        names = ["x", "y", "z"]
        steps = {(0, letter): (0, {"x": (("x",), letter), "y": (("y",), ("z",), ("x",), ("y",)) * 9,
                                   "z": (("y",), ("z",), ("x",)) * 9}) for letter in "ab"}
        program = Program("ab", 1, names, {}, steps, {0: (("x",),)})
        self.assertTrue(judge_rule(program, "ababab", "ababab"))
        self.assertFalse(judge_rule(program, "ababab", "bababa"))
        self.assertEqual(exchanged(program), [])
        self.assertTrue(judge_rule(ending(program, {0: ("a",)}), "aaaaaa", "bbbbb"))
        self.assertTrue(judge_rule(copying(), "aab", "aab"))
        self.check(copying(), "aab", "ab", 4)

    def test_states_that_no_text_leads_to(self):
        steps = {(state, letter): (0, {"x": (("x",), ("x",))} if state else {}) for state in range(5) for letter in "ab"}
        program = Program("ab", 5, ["x"], {"x": "a"}, steps, {state: (("x",),) * (state + 1) for state in range(5)})
        self.assertTrue(judge_rule(program, "a", "b"))
        self.assertEqual((ignored(program), exchanged(program)), ("ab", [("a", "b")]))

    def test_letters_that_are_figures(self):
        for letters in ("0", "01", "0a1", "123"):
            program = sorting(1, "xyz"[:len(letters)])
            told = {"xyz"[number]: letter for number, letter in enumerate(letters)}
            steps = {(state, told[letter]): step for (state, letter), step in program.steps.items()}
            program = Program(letters, 1, program.registers, {}, steps, program.ends)
            self.assertEqual(len(exchanged(program)), len(letters) * (len(letters) - 1) // 2)
            self.assertEqual(ignored(program), "")

    def test_asked_again_and_unchanged(self):
        program = sorting(3)
        self.assertEqual(judge_rule(program, "ab", "c"), judge_rule(program, "ab", "c"))
        self.assertEqual(judge_rule(program, "abc", ""), judge_rule(program, "abc", ""))
        self.assertEqual(program, sorting(3))


class Letters(unittest.TestCase):
    def test_against_rules_for_each(self):
        kinds = {}
        for program in some_programs(90):
            letters = program.letters
            self.assertEqual(ignored(program),
                             "".join(letter for letter in letters if judge_rule(program, letter, "")))
            pairs = [(one, other) for one in letters for other in letters if one < other]
            self.assertEqual(exchanged(program), [pair for pair in pairs if judge_rule(
                program, pair[0] + pair[1], pair[1] + pair[0])])
            for letter in ignored(program):
                self.assertIsNone(differing(program, letter, "", 3))
            kinds[(ignored(program), len(exchanged(program)))] = True
        self.assertGreater(len(kinds), 4)

    def test_letters(self):
        self.assertEqual([ignored(only(kept)) for kept in ("", "a", "bc", "abc")], ["abc", "bc", "a", ""])
        self.assertEqual(exchanged(only("bc")), [("a", "b"), ("a", "c")])
        self.assertEqual(exchanged(only("a")), [("a", "b"), ("a", "c"), ("b", "c")])
        self.assertEqual(exchanged(sorting(4)), [("a", "b"), ("a", "c"), ("b", "c")])
        self.assertEqual(exchanged(sorting(4, "cab")), [("a", "b"), ("a", "c"), ("b", "c")])
        self.assertEqual(exchanged(echo("a", 2)), [])
        self.assertEqual(ignored(echo("a", 2)), "")
        self.assertEqual(ignored(ending(echo("a", 2), {0: (), 1: ()})), "a")

    def test_new_lists(self):
        program = sorting()
        exchanged(program).clear()
        self.assertEqual(len(exchanged(program)), 3)

    def test_the_greatest_programs(self):
        program = sorting(140)
        self.assertEqual(ignored(program), "")
        self.assertEqual(exchanged(program), [("a", "b"), ("a", "c"), ("b", "c")])
        self.assertTrue(judge_rule(program, "abcabc", "ccbbaa"))
        every = ending(program, {state: (("aa",), ("bb",), ("cc",)) for state in range(140)})
        self.assertTrue(judge_rule(every, "abcabc", "ccbbaa"))
        found = judge_rule(every, "abcabc", "ccbbab")
        self.assertTrue(found.shows(every, "abcabc", "ccbbab"))
        self.assertFalse(found)


class Shown(unittest.TestCase):
    def test_respected(self):
        self.assertTrue(Respected().shows(sorting(), "ab", "ba"))
        self.assertFalse(Respected().shows(sorting(), "ab", "a"))
        self.assertFalse(Respected().shows(echo(), "ab", "ba"))

    def test_broken_takes_any_such_texts(self):
        steps = {(0, "a"): (0, {"x": (("x",), "a")}), (0, "b"): (1, {}), (1, "a"): (1, {}), (1, "b"): (0, {})}
        program = Program("ab", 2, ["x"], {}, steps, {0: (("x",),)})
        shown = 0
        for ahead in every_text("ab", 3):
            for behind in every_text("ab", 3):
                unlike = program(ahead + "a" + behind) != program(ahead + behind)
                self.assertEqual(Broken(ahead, behind).shows(program, "a", ""), unlike)
                shown += unlike
        self.assertGreater(shown, 10)

    def test_texts_that_are_none(self):
        self.assertTrue(Broken("a", "b").shows(echo(), "ab", "ba"))
        for wrong in ("c", "abc", "A", " ", "\n", "\u00e9", "0", "a" * 1000 + "c"):
            self.assertFalse(Broken(wrong, "b").shows(echo(), "ab", "ba"))
            self.assertFalse(Broken("a", wrong).shows(echo(), "ab", "ba"))

    def test_long_texts(self):
        self.assertTrue(Broken("a" * 5000, "b" * 5000).shows(echo(), "ab", "ba"))
        self.assertFalse(Broken("a" * 5000, "b" * 5000).shows(echo(), "ab", "ab"))

    def test_changed_attributes(self):
        program = sorting()
        found = judge_rule(program, "aa", "a")
        found.ahead, found.behind = "abc", "cba"
        self.assertTrue(found.shows(program, "aa", "a"))
        self.assertFalse(found.shows(program, "ab", "ba"))
        found.behind = "d"
        self.assertFalse(found.shows(program, "aa", "a"))

    def test_bool_and_equal(self):
        self.assertIs(bool(Respected()), True)
        self.assertIs(bool(Broken("", "")), False)
        self.assertEqual(Respected(), Respected())
        self.assertNotEqual(Respected(), Broken("", ""))
        self.assertNotEqual(Respected(), True)
        self.assertEqual(Broken("a", "b"), Broken("a", "b"))
        for other in (Broken("", "b"), Broken("a", ""), Respected(), ("a", "b")):
            self.assertNotEqual(Broken("a", "b"), other)


class Refused(unittest.TestCase):
    def asked(self):
        """What is asked with a program and two words."""
        return (judge_rule, Respected().shows, Broken("", "").shows,
                lambda program, left, right: ignored(program), lambda program, left, right: exchanged(program))

    def test_no_program(self):
        for asked in self.asked():
            for wrong in (None, "ab", 1, [echo()]):
                with self.assertRaises(BadProgram) as caught:
                    asked(wrong, None, 7)
                self.assertIsNone(caught.exception.part)

    def test_not_thrifty(self):
        many = Program("abcd", 1, ["x"], {}, {(0, letter): (0, {}) for letter in "abcd"}, {0: (("x",), ("x",))})
        for asked in self.asked():
            for wrong in (doubling(), many):
                with self.assertRaises(NotThrifty):
                    asked(wrong, None, "abcabca")

    def test_too_large(self):
        for asked in self.asked():
            for wrong in (echo("abcd"), echo("abc", 141), echo("a", 300), echo("abcd", 200)):
                with self.assertRaises(TooLarge):
                    asked(wrong, None, "!")
        self.assertTrue(judge_rule(echo("abc", 140), "a", "a"))

    def test_words(self):
        for asked in self.asked()[:3]:
            for left, right, place in ((None, "a", None), (1, None, None), ("a", ["a"], None), ("c", None, 0),
                                       ("ab!", "c", 2), ("ab", "bac", 2), ("abababa", None, 6), ("a", "b" * 9, 6),
                                       ("abababac", "", 7), ("aaaaaaa", "c", 6), ("", "A", 0), ("a", None, None)):
                with self.assertRaises(BadWord) as caught:
                    asked(echo(), left, right)
                self.assertEqual(caught.exception.place, place)
        self.assertFalse(judge_rule(echo(), "ababab", "bababa"))

"""Point [9]: where each sign that is written was put in."""

import unittest
from unittest import mock

from passtexts.alike import Differ, Even, Same, judge_lengths, judge_same, write_same
from passtexts.errors import BadProgram, BadWord
from passtexts.origins import OtherFrom, SameFrom, judge_origins, origins, origins_differ
from passtexts.programs import Program
from tests.helpers import (COPY_MOVES, PLAIN_MOVES, check_refusals, copying, counted, doubling, echo, ending,
                           every_text, first_text)
from tests.programs_made import signs_and_origins, thrifty_pairs


def places(program, text):
    told = signs_and_origins(program, text)
    return None if told is None else [place for _, place in told]


def first_from_elsewhere(one, other, longest):
    return first_text(lambda text: signs_and_origins(one, text) != signs_and_origins(other, text), one.letters, longest)


def same_letters(states, kinds):
    """Writes a letter a for each one that is read: ahead, behind, or with what was read ahead, by states."""
    rows = {"ahead": {"x": ("a", ("x",))}, "behind": {"x": (("x",), "a")}, "none": {}}
    steps = {(state, "a"): ((state + 1) % states, rows[kinds[state]]) for state in range(states)}
    return Program("a", states, ["x"], {}, steps, {state: (("x",),) for state in range(states)})


def waiting(word, end):
    """Writes the text; behind a word alone something else is put ahead of it, the word's last letter behind it."""
    many = len(word)
    steps = {(state, letter): (state + 1 if letter == word[state] else many + 1, {"x": (("x",), letter)})
             for state in range(many) for letter in "ab"}
    steps.update({(state, letter): (many + 1, {"x": (("x",), letter)}) for state in (many, many + 1)
                  for letter in "ab"})
    ends = {state: (("x",),) for state in range(many + 2)}
    return Program("ab", many + 2, ["x"], {}, steps, {**ends, many: end})


class Origins(unittest.TestCase):
    def test_where_signs_are_put_in(self):
        steps = {(0, "a"): (0, {"x": ("cd", ("x",), "e")}), (0, "b"): (1, {"y": (("x",), "fg"), "x": ()}),
                 (1, "a"): (1, {}), (1, "b"): (0, {"x": (("y",), ("x",)), "y": ()})}
        program = Program("ab", 2, ["x", "y"], {"x": "hi", "y": "j"}, steps, {0: ("k", ("x",), "lm", ("y",)), 1: ()})
        self.assertEqual(program(""), "khilmj")
        self.assertEqual(origins(program, ""), [0, -1, -1, 0, 0, -1])
        self.assertEqual(program("a"), "kcdhielmj")
        self.assertEqual(origins(program, "a"), [1, 0, 0, -1, -1, 0, 1, 1, -1])
        self.assertEqual(origins(program, "ab"), [])
        self.assertEqual(program("aabb"), "kcdcdhieefglm")
        self.assertEqual(origins(program, "aabb"), [4, 1, 1, 0, 0, -1, -1, 0, 1, 2, 2, 4, 4])

    def test_against_following_all_signs(self):
        for number in range(60):
            program = counted(number, "ab", 1 + number % 3, PLAIN_MOVES + COPY_MOVES)
            for text in every_text("ab", 4):
                self.assertEqual(origins(program, text), places(program, text))

    def test_refused_texts(self):
        program = ending(echo("ab", 2), {1: (("x",),)})
        self.assertEqual([origins(program, text) for text in ("", "a", "ab", "aba")], [None, [0], None, [0, 1, 2]])
        self.assertIsNone(origins(ending(echo(), {}), "ab"))

    def test_programs_that_are_not_thrifty(self):
        self.assertEqual(origins(doubling(), "aa"), [-1] * 4)
        self.assertEqual(origins(ending(doubling(), {0: (("x",), "b", ("x",))}), "ab"), [-1, -1, 2, -1, -1])

    def test_long_texts_and_registers_that_are_thrown_away(self):
        steps = {(0, "a"): (0, {"x": (("x",), ("x",)), "y": ("a", ("y",))})}
        program = Program("a", 1, ["x", "y"], {"x": "a"}, steps, {0: (("y",), "b")})
        self.assertEqual(origins(program, "a" * 2000), list(range(2000))[::-1] + [2000])

    def test_returned_lists_are_new(self):
        program = ending(echo(), {0: ("a",)})
        origins(program, "ab").append(7)
        self.assertEqual(origins(program, "ab"), [2])
        self.assertEqual(program, ending(echo(), {0: ("a",)}))

    def test_wrong_programs_and_texts(self):
        for wrong in (None, 1, "ab", Program, [echo()]):
            for text in ("a", None, "c"):
                with self.assertRaises(BadProgram) as caught:
                    origins(wrong, text)
                self.assertIsNone(caught.exception.part)
        for text, place in ((None, None), (1, None), (["a"], None), (b"a", None), ("c", 0), ("abca", 2), ("ab ", 2),
                            ("A", 0)):
            for program in (echo(), doubling(), ending(echo(), {})):
                with self.assertRaises(BadWord) as caught:
                    origins(program, text)
                self.assertEqual(caught.exception.place, place)


class Judged(unittest.TestCase):
    def check(self, one, other):
        found = judge_origins(one, other)
        self.assertTrue(found.shows(one, other))
        longest = 5 if one.letters == "ab" else 10
        text = first_from_elsewhere(one, other, longest)
        if found:
            self.assertIsInstance(found, SameFrom)
            self.assertIsNone(text)
            self.assertEqual(found.heights, judge_lengths(one, other).heights)
            self.assertTrue(write_same(one, other))
        else:
            self.assertIsInstance(found, OtherFrom)
            self.assertTrue(text == found.text or text is None and len(found.text) > longest)
        return bool(found)

    def test_against_all_short_texts(self):
        kinds = {True: 0, False: 0}
        elsewhere = 0
        for one, other in thrifty_pairs(150):
            found = self.check(one, other)
            kinds[found] += 1
            elsewhere += not found and write_same(one, other)
        self.assertGreater(min(kinds.values()), 150)
        self.assertGreater(elsewhere, 20)

    def test_signs_are_followed_rightly_without_reading_texts(self):
        kinds = {True: 0, False: 0}
        with mock.patch("passtexts.deciding.FEW", 0), mock.patch("passtexts.deciding.MANY", 0):
            for one, other in thrifty_pairs(150, 2):
                if judge_lengths(one, other):
                    found = self.check(one, other)
                    self.assertEqual(origins_differ(one, other), not found)
                    kinds[found] += 1
        self.assertGreater(min(kinds.values()), 20)

    def test_the_same_text_from_elsewhere(self):
        one, other = same_letters(1, ["behind"]), same_letters(1, ["ahead"])
        self.assertTrue(judge_same(one, other))
        self.assertEqual(judge_origins(one, other), OtherFrom("aa"))
        self.assertTrue(judge_origins(one, same_letters(3, ["behind"] * 3)))
        mixed = same_letters(5, ["behind", "behind", "behind", "behind", "ahead"])
        self.assertEqual(judge_origins(one, mixed), OtherFrom("aaaaa"))
        self.assertEqual(judge_origins(mixed, one), OtherFrom("aaaaa"))

    def test_from_first_contents_from_steps_and_from_the_end(self):
        steps, kept = {(0, "a"): (0, {"x": (("x",), "a")})}, {(0, "a"): (0, {})}
        first = Program("a", 1, ["x"], {"x": "a"}, steps, {0: (("x",),)})
        ended = Program("a", 1, ["x"], {}, steps, {0: (("x",), "a")})
        self.assertTrue(judge_same(first, ended))
        self.assertEqual(judge_origins(first, ended), OtherFrom(""))
        self.assertEqual(judge_origins(ended, first), OtherFrom(""))
        self.assertTrue(judge_origins(first, Program("a", 1, ["y"], {"y": "a"}, {(0, "a"): (0, {"y": (("y",), "a")})},
                                                     {0: (("y",),)})))
        early = Program("a", 2, ["x"], {}, {(0, "a"): (1, {"x": ("b",)}), (1, "a"): (1, {})}, {0: ("b",), 1: (("x",),)})
        late = Program("a", 1, [], {}, {(0, "a"): (0, {})}, {0: ("b",)})
        told = Program("a", 1, ["x"], {"x": "b"}, kept, {0: (("x",),)})
        again = Program("a", 1, ["x"], {}, {(0, "a"): (0, {"x": ("b",)})}, {0: (("x",),)})
        for one, other, text in ((early, late, "a"), (late, early, "a"), (early, told, ""), (late, told, ""),
                                 (early, ending(early, {0: ("b",), 1: ("b",)}), "a"), (again, early, "")):
            self.assertEqual(judge_origins(one, other), OtherFrom(text))

    def test_signs_put_in_by_unlike_letters_of_long_texts(self):
        for word in ("bbab", "bbabbbabab"):
            one, other = waiting(word, ("b", ("x",))), waiting(word, (("x",), "b"))
            self.assertEqual(judge_origins(one, other), judge_origins(other, one))
            self.assertEqual(judge_origins(one, other), OtherFrom(word))
        self.assertTrue(judge_same(waiting("bbbb", ("b", ("x",))), waiting("bbbb", (("x",), "b"))))
        self.assertEqual(judge_origins(waiting("bbbb", ("b", ("x",))), waiting("bbbb", (("x",), "b"))),
                         OtherFrom("bbbb"))

    def test_sixty_letters(self):
        kinds = ["behind"] * 60
        one, other = same_letters(60, kinds), same_letters(60, kinds[:-1] + ["ahead"])
        self.assertEqual(judge_origins(one, other), OtherFrom("a" * 60))
        self.assertTrue(judge_same(one, other))

    def test_rings_that_put_signs_in_at_unlike_places(self):
        def program(end):
            steps = {(0, "a"): (0, {"x": (("x",), "a")}), (0, "b"): (0, {"y": (("y",), "a")})}
            return Program("ab", 1, ["x", "y"], {}, steps, {0: end})

        one, other = program((("x",), ("y",))), program((("y",), ("x",)))
        self.assertTrue(judge_same(one, other))
        self.assertEqual(judge_origins(one, other), OtherFrom("ab"))
        self.assertTrue(judge_origins(one, one))

    def test_refused_texts(self):
        every, some = echo("ab", 2), ending(echo("ab", 2), {0: (("x",),)})
        self.assertEqual(judge_origins(every, some), OtherFrom("a"))
        self.assertEqual(judge_origins(some, every), OtherFrom("a"))
        self.assertTrue(judge_origins(some, some))
        none = ending(every, {})
        self.assertEqual(judge_origins(none, ending(echo(), {})), SameFrom({}))
        self.assertEqual(judge_origins(none, ending(every, {1: ("",)})), OtherFrom("a"))

    def test_unlike_texts(self):
        one, other = ending(echo(), {0: (("x",), "a")}), ending(echo(), {0: (("x",), "b")})
        self.assertEqual(judge_origins(one, other), OtherFrom(""))
        self.assertEqual(judge_origins(one, echo()), OtherFrom(""))

    def test_many_states(self):
        found = judge_origins(echo("ab", 300), echo("ab", 7))
        self.assertEqual(len(found.heights), 2100)
        self.assertTrue(judge_origins(copying(), copying()))

    def test_asked_again(self):
        for one, other in list(thrifty_pairs(60))[::9]:
            self.assertEqual(judge_origins(one, other), judge_origins(one, other))


class Shown(unittest.TestCase):
    def test_same_needs_right_heights(self):
        one, other = echo("ab", 2), echo("ab", 3)
        found = judge_origins(one, other)
        for node in list(found.heights):
            for height in (1, -1, 10 ** 40):
                self.assertFalse(SameFrom({**found.heights, node: height}).shows(one, other))
            self.assertFalse(SameFrom({told: 0 for told in found.heights if told != node}).shows(one, other))
        for wrong in ((0, ("y",), 0, ("x",)), (0,), "x", None, (0, "x", 0, "x"), (5, ("x",), 0, ("x",))):
            self.assertFalse(SameFrom({**found.heights, wrong: 0}).shows(one, other))
        self.assertFalse(SameFrom({}).shows(one, other))
        self.assertFalse(SameFrom({(number, ("x",), number, ("x",)): 0 for number in range(20000)}).shows(one, other))

    def test_same_decides_anew(self):
        shown = 0
        for one, other in thrifty_pairs(150, 3):
            heights = judge_lengths(one, other)
            if heights and not judge_origins(one, other):
                self.assertFalse(SameFrom(heights.heights).shows(one, other))
                shown += 1
        self.assertGreater(shown, 15)

    def test_same_as_for_even_programs_more_nodes_may_have_heights(self):
        program = Program("a", 1, ["x", "y"], {}, {(0, "a"): (0, {"x": (("x",), "a")})}, {0: (("x",),)})
        found = judge_origins(program, program)
        found.heights[(0, ("y",), 0, ())] = 0
        self.assertTrue(found.shows(program, program))
        found.heights[(0, ("y",), 0, ())] = 1
        self.assertFalse(found.shows(program, program))

    def test_other_takes_any_such_text(self):
        for one, other in list(thrifty_pairs(120))[::17]:
            for text in every_text(one.letters, 4):
                self.assertEqual(OtherFrom(text).shows(one, other),
                                 signs_and_origins(one, text) != signs_and_origins(other, text))

    def test_other_with_what_is_no_text_of_the_letters(self):
        other = ending(echo(), {0: (("x",), "a")})
        self.assertTrue(OtherFrom("ab").shows(echo(), other))
        for text in ("c", "abc", "A", " ", "a b", "\u00e9", "a" * 1000 + "c", "a\n"):
            self.assertFalse(OtherFrom(text).shows(echo(), other))

    def test_other_with_long_texts(self):
        one, other = same_letters(1, ["ahead"]), same_letters(1, ["behind"])
        self.assertTrue(OtherFrom("a" * 3000).shows(one, other))
        self.assertFalse(OtherFrom("a" * 3000).shows(one, one))

    def test_changed_attributes(self):
        one, other = same_letters(1, ["ahead"]), same_letters(1, ["behind"])
        found = judge_origins(one, other)
        found.text = "a"
        self.assertFalse(found.shows(one, other))
        found.text = "aaaa"
        self.assertTrue(found.shows(one, other))
        found = judge_origins(one, one)
        found.heights = {}
        self.assertFalse(found.shows(one, one))


class Evidence(unittest.TestCase):
    def test_bool(self):
        self.assertIs(bool(SameFrom({})), True)
        self.assertIs(bool(OtherFrom("")), False)

    def test_equal(self):
        node = (0, ("x",), 0, ())
        self.assertEqual(SameFrom({node: 1}), SameFrom({node: 1}))
        self.assertNotEqual(SameFrom({node: 1}), SameFrom({node: 2}))
        self.assertNotEqual(SameFrom({node: 1}), Same({node: 1}))
        self.assertNotEqual(SameFrom({node: 1}), Even({node: 1}))
        self.assertEqual(OtherFrom("a"), OtherFrom("a"))
        self.assertNotEqual(OtherFrom("a"), OtherFrom("b"))
        self.assertNotEqual(OtherFrom("a"), Differ("a"))
        self.assertNotEqual(Differ("a"), OtherFrom("a"))
        self.assertNotEqual(OtherFrom("a"), "a")

    def test_copied_and_new(self):
        heights = {(0, (), 0, ()): 0}
        found = SameFrom(heights)
        heights.clear()
        self.assertEqual(found.heights, {(0, (), 0, ()): 0})
        judge_origins(echo(), echo()).heights.clear()
        self.assertEqual(judge_origins(echo(), echo()).heights, {(0, ("x",), 0, ("x",)): 0})

    def test_asking_changes_nothing(self):
        one, other = copying(), echo()
        judge_origins(one, other).shows(one, other)
        self.assertEqual([one, other], [copying(), echo()])


class Refused(unittest.TestCase):
    def test_which_error_comes_first(self):
        for asked in (judge_origins, SameFrom({}).shows, OtherFrom("a").shows, OtherFrom("!").shows):
            check_refusals(self, asked)

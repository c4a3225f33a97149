"""Point [10], the second part: beginnings of what another program writes, and what only grows at its end."""

import unittest
from unittest import mock

from passtexts.alike import Even, Same, judge_lengths
from passtexts.beginnings import (Begins, Changing, Growing, Most, Strays, judge_beginning, judge_growing,
                                  judge_longer, read_before)
from passtexts.errors import BadProgram, NotThrifty
from passtexts.programs import Program
from passtexts.thrifty import judge_thrifty
from tests.helpers import (COPY_MOVES, PLAIN_MOVES, check_refusals, copying, counted, doubling, echo, ending,
                           every_text, first_text, shares)
from tests.programs_made import thrifty_pairs


def is_beginning(written, other_written):
    """Whether both are written, and the first one begins the other one, or none is."""
    if written is None or other_written is None:
        return written is None and other_written is None
    return other_written[:len(written)] == written


def first_straying(one, other, longest):
    return first_text(lambda text: not is_beginning(one(text), other(text)), one.letters, longest)


def first_changing(program, letter, longest):
    return first_text(lambda text: not is_beginning(program(text), program(text + letter)), program.letters, longest)


def longer_behind(program, number):
    """The program that writes more behind some of its ends."""
    return ending(program, {state: row + ("", "a", "ba")[(number + state) % 3:][:1]
                            for state, row in program.ends.items()})


def behind_each(signs, end=""):
    """Writes some signs for each letter, behind one another, and some at the end."""
    steps = {(0, letter): (0, {"x": (("x",), told)}) for letter, told in signs.items()}
    return Program("".join(signs), 1, ["x"], {}, steps, {0: (("x",), end)})


def late(word, end, rest):
    """Writes the text; behind a word alone, and not behind more, it writes a row instead, others of as many letters."""
    many = len(word)
    steps = {(state, letter): (state + 1 if letter == word[state] else many + 1, {"x": (("x",), letter)})
             for state in range(many) for letter in "ab"}
    steps.update({(state, letter): (many + 1, {"x": (("x",), letter)}) for state in (many, many + 1)
                  for letter in "ab"})
    ends = {state: (("x",), rest) for state in range(many + 2)}
    return Program("ab", many + 2, ["x"], {}, steps, {**ends, many: end})


class Judged(unittest.TestCase):
    def check(self, one, other):
        found = judge_beginning(one, other)
        self.assertTrue(found.shows(one, other))
        longest = 5 if one.letters == "ab" else 10
        text = first_straying(one, other, longest)
        if found:
            self.assertIsInstance(found, Begins)
            self.assertIsNone(text)
        else:
            self.assertIsInstance(found, Strays)
            self.assertTrue(text == found.text or text is None and len(found.text) > longest)
        return bool(found)

    def test_against_all_short_texts(self):
        kinds = {True: 0, False: 0}
        for number, (one, other) in enumerate(thrifty_pairs(130)):
            kinds[self.check(one, other)] += 1
            kinds[self.check(one, longer_behind(one, number))] += 1
            kinds[self.check(longer_behind(other, number), one)] += 1
        self.assertGreater(min(kinds.values()), 200)

    def test_signs_are_followed_rightly_without_reading_texts(self):
        kinds = {True: 0, False: 0}
        with mock.patch("passtexts.deciding.FEW", 0), mock.patch("passtexts.deciding.MANY", 0):
            for number, (one, other) in enumerate(thrifty_pairs(130, 2)):
                kinds[self.check(one, other)] += 1
                kinds[self.check(one, longer_behind(other, number))] += 1
        self.assertGreater(min(kinds.values()), 100)

    def test_beginnings(self):
        one = behind_each({"a": "cd", "b": "c"})
        self.assertTrue(judge_beginning(one, one))
        self.assertTrue(judge_beginning(one, behind_each({"a": "cd", "b": "c"}, "d")))
        self.assertEqual(judge_beginning(behind_each({"a": "cd", "b": "c"}, "d"), one), Strays(""))
        self.assertEqual(judge_beginning(one, behind_each({"a": "cdc", "b": "c"}, "")), Strays("aa"))
        self.assertTrue(judge_beginning(one, behind_each({"a": "cd", "b": "c"}, "d" * 5000)))
        self.assertTrue(judge_beginning(behind_each({"a": "ab"}), behind_each({"a": "abab"}, "c")))
        self.assertEqual(judge_beginning(behind_each({"a": "abab"}), behind_each({"a": "ab"}, "abab" * 3)),
                         Strays("a" * 7))
        self.assertTrue(judge_beginning(behind_each({"a": ""}), behind_each({"a": "b"})))
        self.assertTrue(judge_beginning(behind_each({"a": "b"}, ""), behind_each({"a": "b"}, "bb")))
        self.assertEqual(judge_beginning(behind_each({"a": "b"}, "c"), behind_each({"a": "b"}, "bb")), Strays(""))

    def test_unlike_signs_behind_what_the_first_one_writes_do_not_count(self):
        one = behind_each({"a": "b"})
        turned = Program("a", 1, ["x", "y"], {}, {(0, "a"): (0, {"x": (("x",), "b"), "y": ("c", ("y",))})},
                         {0: (("x",), ("y",))})
        self.assertTrue(judge_beginning(one, turned))
        self.assertEqual(judge_beginning(behind_each({"a": "b"}, "b"), turned), Strays(""))
        self.assertEqual(judge_beginning(behind_each({"a": "bb"}), turned), Strays("a"))

    def test_the_first_text(self):
        for word in ("bbab", "bbabbbabbbab"):
            other = late(word, (("x",), "aa"), "aa")
            self.assertTrue(judge_beginning(late(word, (("x",),), ""), other))
            self.assertEqual(judge_beginning(late(word, (("x",), "b"), ""), other), Strays(word))
            self.assertEqual(judge_beginning(late(word, (("x",), "aaa"), ""), other), Strays(word))
            self.assertEqual(judge_beginning(late(word, ("b", ("x",)), ""), other), Strays(word))
            refusing = ending(other, {state: row for state, row in other.ends.items() if state != len(word)})
            self.assertEqual(judge_beginning(late(word, (("x",),), ""), refusing), Strays(word))
            self.assertEqual(judge_beginning(refusing, other), Strays(word))

    def test_sixty_letters(self):
        steps = {(state, "a"): (min(state + 1, 60), {"x": (("x",), "a")}) for state in range(61)}
        one = Program("a", 61, ["x"], {}, steps, {state: (("x",),) for state in range(61)})
        other = ending(one, {**one.ends, 60: ("b", ("x",))})
        self.assertEqual(judge_beginning(one, other), Strays("a" * 60))
        self.assertTrue(Strays("a" * 60).shows(one, other))

    def test_refused_texts(self):
        every, some = echo("ab", 2), ending(echo("ab", 2), {0: (("x",),)})
        self.assertEqual(judge_beginning(every, some), Strays("a"))
        self.assertEqual(judge_beginning(some, every), Strays("a"))
        self.assertTrue(judge_beginning(some, some))
        none = ending(every, {})
        self.assertEqual(judge_beginning(none, ending(echo(), {})), Begins({}))
        self.assertEqual(judge_beginning(none, some), Strays(""))
        nothing = ending(echo(), {0: ()})
        self.assertTrue(judge_beginning(nothing, echo()))
        self.assertEqual(judge_beginning(nothing, some), Strays("a"))

    def test_heights(self):
        found = judge_beginning(behind_each({"a": "cd", "b": "c"}), behind_each({"a": "cd", "b": "c"}, "dd"))
        self.assertEqual(found.heights, {(0, ("x",), 0, ("x",)): -2})
        found = judge_beginning(echo("ab", 40), echo("ab", 30))
        self.assertEqual(len(found.heights), 120)

    def test_many_states(self):
        self.assertTrue(judge_beginning(echo("ab", 300), echo("ab", 7)))

    def test_asked_again(self):
        for one, other in list(thrifty_pairs(60))[::9]:
            self.assertEqual(judge_beginning(one, other), judge_beginning(one, other))


class Grows(unittest.TestCase):
    def test_against_all_short_texts(self):
        kinds = {True: 0, False: 0}
        for number in range(300):
            letters = "ab" if number % 3 else "a"
            program = counted(number, letters, 1 + number % 3, PLAIN_MOVES + COPY_MOVES)
            if not judge_thrifty(program):
                continue
            found = judge_growing(program)
            self.assertTrue(found.shows(program))
            kinds[bool(found)] += 1
            longest = 5 if letters == "ab" else 9
            for letter in letters:
                text = first_changing(program, letter, longest)
                if not found and letter == found.letter:
                    self.assertTrue(text == found.text or text is None and len(found.text) > longest)
                    break
                self.assertIsNone(text)
        self.assertGreater(min(kinds.values()), 60)

    def test_what_grows(self):
        self.assertTrue(judge_growing(echo("ab", 5)))
        self.assertTrue(judge_growing(ending(echo(), {0: ("a",)})))
        self.assertTrue(judge_growing(ending(echo(), {0: ()})))
        self.assertEqual(judge_growing(copying()), Changing("a", "b"))
        turned = Program("ab", 1, ["x"], {}, {(0, c): (0, {"x": (c, ("x",))}) for c in "ab"}, {0: (("x",),)})
        self.assertEqual(judge_growing(turned), Changing("b", "a"))
        self.assertTrue(judge_growing(behind_each({"a": "", "b": ""}, "a")))
        self.assertTrue(judge_growing(behind_each({"a": "bb", "b": "b"}, "b")))
        self.assertEqual(judge_growing(behind_each({"a": "bb", "b": ""}, "c")), Changing("", "a"))

    def test_the_first_letter_then_the_first_text(self):
        steps = {(0, "a"): (0, {"x": (("x",), "a")}), (0, "b"): (0, {"x": ("b", ("x",))}),
                 (0, "c"): (0, {"x": ()})}
        program = Program("abc", 1, ["x"], {}, steps, {0: (("x",),)})
        self.assertEqual(judge_growing(program), Changing("a", "b"))
        steps[(0, "b")] = (0, {"x": (("x",), "b")})
        self.assertEqual(judge_growing(Program("abc", 1, ["x"], {}, steps, {0: (("x",),)})), Changing("a", "c"))
        program = late("bbabb", ("b", ("x",)), "")
        self.assertEqual(judge_growing(program), Changing("bbabb", "a"))
        self.assertEqual(judge_growing(late("bbabb", ("b", ("x",), "a"), "")), Changing("bbabb", "a"))
        self.assertEqual(judge_growing(late("bbaba", ("b", ("x",)), "")), Changing("bbab", "a"))

    def test_refused_texts(self):
        some = ending(echo("ab", 2), {0: (("x",),)})
        self.assertEqual(judge_growing(some), Changing("", "a"))
        none = ending(echo("ab", 2), {})
        self.assertEqual(judge_growing(none), Growing([Begins({}), Begins({})]))
        self.assertTrue(judge_growing(none).shows(none))

    def test_what_is_told_for_each_letter(self):
        program = Program("ca", 1, ["x"], {}, {(0, "a"): (0, {"x": (("x",), "abc")}), (0, "c"): (0, {})}, {0: (("x",),)})
        node = (0, ("x",), 0, ("x",))
        self.assertEqual(judge_growing(program), Growing([Begins({node: -3}), Begins({node: 0})]))

    def test_refused_programs(self):
        for asked in (judge_growing, Growing([]).shows, Changing("", "a").shows):
            for wrong in (None, 1, "ab", [echo()]):
                with self.assertRaises(BadProgram) as caught:
                    asked(wrong)
                self.assertIsNone(caught.exception.part)
            with self.assertRaises(NotThrifty):
                asked(doubling())


class ReadBefore(unittest.TestCase):
    def test_what_is_written(self):
        for number in range(60):
            program = counted(number, "ab", 1 + number % 3, PLAIN_MOVES + COPY_MOVES)
            for letter in "ab":
                found = read_before(program, letter)
                for text in every_text("ab", 4):
                    self.assertEqual(found(text), program(text + letter))

    def test_the_same_states_registers_and_steps(self):
        for number in range(20):
            program = counted(number, "ab", 3)
            found = read_before(program, "b")
            self.assertIsInstance(found, Program)
            self.assertEqual((found.letters, found.states, found.registers, found.firsts, found.steps),
                             (program.letters, program.states, program.registers, program.firsts, program.steps))
            self.assertEqual(Program(found.letters, found.states, found.registers, found.firsts, found.steps,
                                     found.ends), found)

    def test_texts_side_by_side_are_one(self):
        program = Program("a", 1, ["x"], {}, {(0, "a"): (0, {"x": ("b", ("x",), "c")})}, {0: ("d", ("x",), "e")})
        self.assertEqual(read_before(program, "a").ends, {0: ("db", ("x",), "ce")})

    def test_programs_that_are_not_thrifty(self):
        self.assertEqual(read_before(doubling(), "a")("a"), "aaaa")

    def test_new_and_unchanged(self):
        program = echo("ab", 2)
        found = read_before(program, "a")
        self.assertFalse(shares(found, program))
        self.assertEqual(program, echo("ab", 2))

    def test_no_program(self):
        for wrong in (None, 1, "ab"):
            with self.assertRaises(BadProgram) as caught:
                read_before(wrong, "a")
            self.assertIsNone(caught.exception.part)


class Shown(unittest.TestCase):
    def test_begins_needs_right_heights(self):
        one, other = echo("ab", 2), ending(echo("ab", 3), {state: (("x",), "a") for state in range(3)})
        found = judge_beginning(one, other)
        self.assertTrue(found.shows(one, other))
        for node in list(found.heights):
            self.assertFalse(Begins({**found.heights, node: -2}).shows(one, other))
            self.assertFalse(Begins({**found.heights, node: -10 ** 30}).shows(one, other))
            self.assertFalse(Begins({**found.heights, node: 1}).shows(one, other))
            self.assertFalse(Begins({told: -1 for told in found.heights if told != node}).shows(one, other))
        for height, shown in ((-2, False), (-1, True), (0, True), (1, False), (10 ** 30, False)):
            self.assertEqual(Begins({node: height for node in found.heights}).shows(one, other), shown)
        for wrong in ((0, ("y",), 0, ("x",)), (0,), "x", None, (0, "x", 0, "x"), (5, ("x",), 0, ("x",)),
                      (0, (), 0, ())):
            self.assertFalse(Begins({**found.heights, wrong: 0}).shows(one, other))
        self.assertFalse(Begins({}).shows(one, other))
        self.assertFalse(Begins({(number, ("x",), number, ("x",)): 0 for number in range(20000)}).shows(one, other))

    def test_begins_is_decided_anew(self):
        shown = 0
        for one, other in thrifty_pairs(150, 3):
            found = judge_longer(one, other)
            if isinstance(found, Most) and found.number <= 0 and not judge_beginning(one, other):
                self.assertFalse(Begins(found.heights).shows(one, other))
                shown += 1
        self.assertGreater(shown, 20)

    def test_begins_needs_the_same_texts_refused(self):
        every, some = echo("ab", 2), ending(echo("ab", 2), {0: (("x",),)})
        for one, other in ((every, some), (some, every)):
            found = judge_longer(one, other)
            self.assertEqual(found.number, 0)
            self.assertFalse(Begins(found.heights).shows(one, other))
        self.assertTrue(Begins(judge_longer(some, some).heights).shows(some, some))

    def test_strays_takes_any_such_text(self):
        for one, other in list(thrifty_pairs(100))[::13]:
            for text in every_text(one.letters, 4):
                self.assertEqual(Strays(text).shows(one, other), not is_beginning(one(text), other(text)))

    def test_strays_with_what_is_no_text_of_the_letters(self):
        other = ending(echo(), {0: ("a", ("x",))})
        self.assertTrue(Strays("b").shows(echo(), other))
        for text in ("c", "bbc", "A", " ", "a b", "\u00e9", "b" * 1000 + "c", "b\n"):
            self.assertFalse(Strays(text).shows(echo(), other))
        self.assertTrue(Strays("b" * 5000).shows(echo(), other))

    def test_growing(self):
        program = echo("ab", 2)
        found = judge_growing(program)
        self.assertTrue(found.shows(program))
        good = [Begins(told.heights) for told in found.told]
        for wrong in ([], good[:1], good + good[:1], [Begins({})] * 2, [good[0], Begins({})]):
            self.assertFalse(Growing(wrong).shows(program))
        found.told = tuple(good)
        self.assertTrue(found.shows(program))
        found.told[1].heights[(0, ("x",), 0, ("x",))] = 1
        self.assertFalse(found.shows(program))
        found.told = [good[0], Same(good[0].heights)]
        self.assertFalse(found.shows(program))
        turned = Program("ab", 1, ["x"], {}, {(0, c): (0, {"x": (c, ("x",))}) for c in "ab"}, {0: (("x",),)})
        found = judge_growing(echo())
        self.assertTrue(found.shows(echo()))
        self.assertFalse(found.shows(turned))

    def test_changing(self):
        program = late("bba", ("b", ("x",)), "")
        for text in every_text("ab", 5):
            for letter in "ab":
                self.assertEqual(Changing(text, letter).shows(program),
                                 not is_beginning(program(text), program(text + letter)))
        for text, letter in (("bba", ""), ("bba", "c"), ("bba", "ab"), ("bb", "aa"), ("", "bbaa"), ("bbc", "a"),
                             ("bba", "A"), ("bba ", "a"), ("bba", "a\n"), ("\u00e9", "a")):
            self.assertFalse(Changing(text, letter).shows(program))
        self.assertTrue(Changing("bba", "b").shows(program))

    def test_changed_attributes(self):
        one, other = echo(), ending(echo(), {0: ("a", ("x",))})
        found = judge_beginning(one, other)
        found.text = "ab"
        self.assertTrue(found.shows(one, other))
        found.text = "aa"
        self.assertFalse(found.shows(one, other))
        found = judge_growing(other)
        self.assertTrue(found)
        program = late("bba", ("b", ("x",)), "")
        found = judge_growing(program)
        self.assertEqual(found, Changing("bba", "a"))
        found.letter = "b"
        self.assertTrue(found.shows(program))
        found.text = "b"
        self.assertFalse(found.shows(program))


class Evidence(unittest.TestCase):
    def test_bool(self):
        self.assertIs(bool(Begins({})), True)
        self.assertIs(bool(Strays("")), False)
        self.assertIs(bool(Growing([])), True)
        self.assertIs(bool(Changing("", "a")), False)

    def test_equal(self):
        node = (0, (), 0, ())
        self.assertEqual(Begins({node: 1}), Begins({node: 1}))
        for other in (Begins({node: 2}), Begins({}), Same({node: 1}), Even({node: 1}), Strays(""), {node: 1}):
            self.assertNotEqual(Begins({node: 1}), other)
            self.assertNotEqual(other, Begins({node: 1}))
        self.assertEqual(Strays("a"), Strays("a"))
        self.assertNotEqual(Strays("a"), Strays(""))
        self.assertNotEqual(Strays("a"), "a")
        self.assertEqual(Growing([Begins({node: 1})]), Growing((Begins({node: 1}),)))
        for other in (Growing([]), Growing([Begins({})]), Growing([Begins({node: 1})] * 2), [Begins({node: 1})]):
            self.assertNotEqual(Growing([Begins({node: 1})]), other)
        found = Growing([Begins({node: 1})])
        found.told = (Begins({node: 1}),)
        self.assertEqual(found, Growing([Begins({node: 1})]))
        self.assertEqual(Changing("a", "b"), Changing("a", "b"))
        for other in (Changing("", "b"), Changing("a", "a"), Strays("a"), ("a", "b")):
            self.assertNotEqual(Changing("a", "b"), other)

    def test_copied_and_new(self):
        heights = {(0, (), 0, ()): 0}
        begins = Begins(heights)
        told = [begins]
        growing = Growing(told)
        heights.clear()
        self.assertEqual(begins.heights, {(0, (), 0, ()): 0})
        begins.heights.clear()
        told.clear()
        self.assertEqual(growing, Growing([Begins({(0, (), 0, ()): 0})]))
        program = echo()
        judge_growing(program).told[0].heights.clear()
        judge_growing(program).told.clear()
        judge_beginning(program, program).heights.clear()
        self.assertEqual(judge_growing(program), Growing([Begins({(0, ("x",), 0, ("x",)): -1})] * 2))
        self.assertEqual(judge_beginning(program, program), Begins({(0, ("x",), 0, ("x",)): 0}))
        self.assertEqual(judge_lengths(program, program), Even({(0, ("x",), 0, ("x",)): 0}))

    def test_asking_changes_nothing(self):
        one, other = copying(), echo()
        judge_beginning(one, other).shows(one, other)
        judge_growing(one).shows(one)
        self.assertEqual([one, other], [copying(), echo()])


class Refused(unittest.TestCase):
    def test_which_error_comes_first(self):
        for asked in (judge_beginning, Begins({}).shows, Strays("a").shows, Strays("!").shows):
            check_refusals(self, asked)

"""Point [7]: registers and states that are needless."""

import unittest

from passtexts.alike import write_same
from passtexts.errors import BadName, BadProgram, NotThrifty
from passtexts.needless import emptied, leaned, needless, trimmed
from passtexts.programs import Program
from passtexts.thrifty import is_plain, judge_thrifty
from passtexts.values import word_of
from tests.helpers import (COPY_MOVES, PLAIN_MOVES, copying, counted, doubling, echo, every_text, first_differing,
                           shares)


def some_programs():
    for number in range(220):
        moves = PLAIN_MOVES + COPY_MOVES if number % 2 else PLAIN_MOVES
        yield counted(number, "ab" if number % 3 else "a", 1 + number % 3, moves)


def thrifty_programs():
    return [program for program in some_programs() if judge_thrifty(program)]


def written_without(program, text, name):
    """What is written, if the content of a register is taken for empty at all times."""
    state, held = 0, {**program.firsts, name: ""}
    for letter in text:
        state, rows = program.steps[(state, letter)]
        held = {told: "".join(item if isinstance(item, str) else held[item[0]] for item in rows[told])
                for told in rows}
        held[name] = ""
    row = program.ends.get(state)
    return None if row is None else "".join(item if isinstance(item, str) else held[item[0]] for item in row)


def in_use(program):
    """The registers in use, by asking again and again."""
    reached = program.reached()
    used = {item[0] for state in reached for item in program.ends.get(state, ()) if not isinstance(item, str)}
    for _ in program.registers:
        for state in reached:
            for letter in program.letters:
                rows = program.steps[(state, letter)][1]
                used |= {item[0] for name in list(used) for item in rows[name] if not isinstance(item, str)}
    return sorted(used)


class Emptied(unittest.TestCase):
    def test_against_taking_it_for_empty(self):
        for program in some_programs():
            for name in program.registers:
                found = emptied(program, name)
                self.assertEqual(found.registers, [told for told in program.registers if told != name])
                self.assertEqual((found.letters, found.states), (program.letters, program.states))
                for text in every_text(program.letters, 5):
                    self.assertEqual(found(text), written_without(program, text, name))

    def test_parts(self):
        steps = {(0, "a"): (0, {"x": ("a", ("y",), "b", ("x",)), "y": (("x",), "a")})}
        program = Program("a", 1, ["x", "y"], {"x": "a", "y": "b"}, steps, {0: (("y",), "c", ("x",), ("y",))})
        self.assertEqual(emptied(program, "y"), Program("a", 1, ["x"], {"x": "a"}, {(0, "a"): (0, {
            "x": ("ab", ("x",))})}, {0: ("c", ("x",))}))
        self.assertEqual(emptied(program, "x"), Program("a", 1, ["y"], {"y": "b"}, {(0, "a"): (0, {
            "y": ("a",)})}, {0: (("y",), "c", ("y",))}))

    def test_texts_are_not_names(self):
        program = Program("a", 1, ["x"], {"x": "x"}, {(0, "a"): (0, {"x": ("x", ("x",))})}, {0: ("x1", ("x",), "x")})
        self.assertEqual(emptied(program, "x"), Program("a", 1, [], {}, {(0, "a"): (0, {})}, {0: ("x1x",)}))

    def test_the_only_register(self):
        found = emptied(echo(), "x")
        self.assertEqual((found.registers, found("ab")), ([], ""))

    def test_not_a_register(self):
        for name in ("y", "", "xx", "X", None, 0, ["x"], ("x",)):
            with self.assertRaises(BadName) as caught:
                emptied(echo(), name)
            self.assertEqual(caught.exception.name, name)

    def test_no_program(self):
        for wrong in (None, 1, "ab"):
            with self.assertRaises(BadProgram) as caught:
                emptied(wrong, "nothing")
            self.assertIsNone(caught.exception.part)

    def test_new_and_unchanged(self):
        program = copying()
        self.assertFalse(shares(emptied(program, "y"), program))
        self.assertEqual(program, copying())

    def test_programs_that_are_not_thrifty(self):
        self.assertEqual(emptied(doubling(), "x")("aa"), "")


class Needless(unittest.TestCase):
    def test_as_told(self):
        kinds = {0: 0, 1: 0, 2: 0}
        for program in thrifty_programs():
            found = needless(program)
            self.assertEqual(found, [name for name in program.registers
                                     if write_same(emptied(program, name), program)])
            for name in program.registers:
                text = first_differing(emptied(program, name), program, 5)
                if name in found:
                    self.assertIsNone(text)
            kinds[len(found)] += 1
        self.assertGreater(min(kinds.values()), 5)

    def test_several_that_are_needless_alone(self):
        steps = {(0, "a"): (0, {"y": (("x",), "b"), "x": (("x",), "b")})}
        program = Program("a", 1, ["w", "x", "y", "z"], {"w": "a"}, steps, {0: (("z",), "c")})
        self.assertEqual(needless(program), ["w", "x", "y", "z"])
        self.assertEqual(leaned(program).registers, [])

    def test_registers_that_hold_something_when_they_are_not_live(self):
        steps = {(0, "a"): (1, {"x": ("b",)}), (1, "a"): (0, {"x": ()})}
        self.assertEqual(needless(Program("a", 2, ["x"], {}, steps, {0: (("x",),), 1: ()})), ["x"])
        self.assertEqual(needless(Program("a", 2, ["x"], {}, steps, {1: (("x",),)})), [])

    def test_registers_that_matter_for_a_longer_text_alone(self):
        steps = {(state, "a"): (min(state + 1, 30), {"x": (("x",), "b")} if state == 28 else {})
                 for state in range(31)}
        self.assertEqual(needless(Program("a", 31, ["x"], {}, steps, {state: (("x",),) for state in range(31)})), [])
        self.assertEqual(needless(Program("a", 31, ["x"], {}, steps, {state: (("x",),) for state in range(29)})), ["x"])

    def test_first_contents(self):
        program = Program("a", 1, ["x", "y"], {"x": "b"}, {(0, "a"): (0, {})}, {0: (("x",), ("y",))})
        self.assertEqual(needless(program), ["y"])

    def test_no_register_and_sixty(self):
        self.assertEqual(needless(Program("a", 1, [], {}, {(0, "a"): (0, {})}, {})), [])
        names = sorted(word_of(number) for number in range(60))
        steps = {(0, letter): (0, {name: ((name,), letter) for name in names[::2]}) for letter in "ab"}
        program = Program("ab", 1, names, {}, steps, {0: tuple((name,) for name in names)})
        self.assertEqual(needless(program), names[1::2])
        self.assertEqual(leaned(program).registers, names[::2])

    def test_refused(self):
        for asked in (needless, leaned):
            with self.assertRaises(NotThrifty):
                asked(doubling())
            with self.assertRaises(BadProgram) as caught:
                asked(None)
            self.assertIsNone(caught.exception.part)

    def test_the_list_is_new(self):
        needless(copying()).append("z")
        self.assertEqual(needless(copying()), needless(copying()))


class Leaned(unittest.TestCase):
    def test_as_told(self):
        for program in thrifty_programs():
            left = program
            for name in reversed(program.registers):
                if write_same(emptied(left, name), program):
                    left = emptied(left, name)
            self.assertEqual(leaned(program), left)
            self.assertIsNone(first_differing(leaned(program), program, 5))

    def test_new_and_unchanged(self):
        for program in (echo(), copying()):
            before = Program(program.letters, program.states, program.registers, program.firsts, program.steps,
                             program.ends)
            found = leaned(program)
            self.assertFalse(shares(found, program))
            self.assertEqual(program, before)
        self.assertEqual(leaned(echo()), echo())
        self.assertIsNot(leaned(echo()), echo())


class Trimmed(unittest.TestCase):
    def test_as_told(self):
        for program in some_programs():
            found = trimmed(program)
            self.assertEqual(found.states, len(program.reached()))
            self.assertEqual(found.reached(), list(range(found.states)))
            self.assertEqual(found.registers, in_use(program))
            self.assertIsNone(first_differing(found, program, 5))
            for text in every_text(program.letters, 4):
                held = program.after(text)[1]
                self.assertEqual(found.after(text)[1], {name: held[name] for name in found.registers})

    def test_states_are_numbered_as_they_are_reached(self):
        steps = {(0, "a"): (4, {}), (0, "b"): (2, {}), (1, "a"): (1, {}), (1, "b"): (1, {}), (2, "a"): (3, {}),
                 (2, "b"): (0, {}), (3, "a"): (3, {}), (3, "b"): (3, {}), (4, "a"): (5, {}), (4, "b"): (0, {}),
                 (5, "a"): (5, {}), (5, "b"): (2, {})}
        found = trimmed(Program("ab", 6, [], {}, steps, {state: (word_of(state),) for state in range(6)}))
        self.assertEqual([found.ends[number] for number in range(5)], [("a",), ("e",), ("c",), ("f",), ("d",)])
        self.assertEqual(found.states, 5)
        for number, text in enumerate(("", "a", "b", "aa", "ba")):
            self.assertEqual(found.after(text)[0], number)

    def test_registers_in_use(self):
        steps = {(0, "a"): (0, {"x": (("y",), "a"), "z": (("x",),)}), (1, "a"): (1, {"x": (("w",),)})}
        program = Program("a", 2, ["w", "x", "y", "z"], {}, steps, {0: (("x",),), 1: (("z",),)})
        self.assertEqual(trimmed(program).registers, ["x", "y"])
        self.assertEqual(trimmed(Program("a", 2, ["w", "x", "y", "z"], {}, steps, {})).registers, [])

    def test_registers_that_are_always_empty_are_in_use(self):
        program = Program("a", 1, ["x"], {}, {(0, "a"): (0, {})}, {0: (("x",),)})
        self.assertEqual(trimmed(program), program)

    def test_programs_that_are_not_thrifty(self):
        self.assertEqual(trimmed(doubling()), doubling())
        self.assertFalse(is_plain(trimmed(doubling())))

    def test_many_states(self):
        self.assertEqual(trimmed(echo("ab", 300)), echo("ab", 300))

    def test_new_and_unchanged(self):
        program = echo()
        found = trimmed(program)
        self.assertFalse(shares(found, program))
        found.steps.clear()
        self.assertEqual(program, echo())

    def test_no_program(self):
        with self.assertRaises(BadProgram) as caught:
            trimmed([])
        self.assertIsNone(caught.exception.part)

"""Point [28]: scripts as programs, and programs as scripts."""

import re
import unittest
from unittest import mock

from passtexts.alike import Differ, Same, judge_same, write_same
from passtexts.behind import behind
from passtexts.compiling import compiled, judge_scripts, script_of, states_of
from passtexts.errors import BadProgram, NotThrifty, TooLarge, Unlike
from passtexts.making import kept, turned
from passtexts.needless import trimmed
from passtexts.programs import Program
from passtexts.scriptruns import run_script
from passtexts.scripts import BadScript, Script, read_script
from passtexts.scriptwriting import write_script
from passtexts.sets import TextSet
from passtexts.thrifty import is_plain, judge_thrifty
from passtexts.values import word_of
from tests.helpers import COPY_MOVES, PLAIN_MOVES, copying, counted, doubling, echo, every_text, first_text, shares
from tests.scripts_made import Followed, counted_script, script_text
from tests.test_behind import halves, turning

HEAD = "letters ab; counter n 5; counter m 3; text x; text y; text z; "


def made(many, step=1, letters="ab"):
    """Trees of scripts, with the scripts."""
    for number in range(0, many, step):
        tree = counted_script(number, letters, number % 3 == 0)
        yield tree, read_script(script_text(tree))


def script(told, head=HEAD):
    return read_script(head + told)


def one_step(tree, counters, letter):
    """What a letter does from these counters on, None if it stops: counters, and rows of marked texts."""
    followed = Followed(tree, "")
    followed.counters = dict(counters)
    followed.texts = {name: f"<{name}>" for name in tree["texts"]}
    followed.read(letter)
    if followed.stopped:
        return None
    rows = {name: tuple((part[1:-1],) if part[0] == "<" else part for part in re.findall(r"<\w+>|\w+", text))
            for name, text in followed.texts.items()}
    return followed.counters, rows


def row_at_end(tree, counters):
    """The row of the first end that fits, marked likewise, None without one."""
    followed = Followed(tree, "")
    followed.counters = dict(counters)
    followed.texts = {name: f"<{name}>" for name in tree["texts"]}
    written = followed.written()
    if written is None:
        return None
    return tuple((part[1:-1],) if part[0] == "<" else part for part in re.findall(r"<\w+>|\w+", written))


def states_of_tree(tree, longest):
    """The counters that texts up to a length lead to, as they come first."""
    found = []
    for text in every_text(tree["letters"], longest):
        followed = Followed(tree, text)
        state = None if followed.stopped else followed.counters
        if state not in found:
            found.append(state)
    return found


class States(unittest.TestCase):
    def test_made_ones(self):
        stopped = 0
        for tree, told in made(300):
            found = states_of(told)
            self.assertEqual(found, states_of_tree(tree, 6) if len(found) < 13 else found)
            self.assertEqual(found[0], {"m": 0, "n": 0})
            for state in found:
                self.assertTrue(state is None or list(state) == ["m", "n"])
            stopped += None in found
        self.assertGreater(stopped, 30)

    def test_in_the_order_in_which_they_come_first(self):
        told = script("on b { n = n + 1; } on a { if n > 1 { stop; } m = n + 1; }")
        first = [{"m": 0, "n": 0}, {"m": 1, "n": 0}, {"m": 0, "n": 1}, {"m": 1, "n": 1}, {"m": 2, "n": 1}, {"m": 0, "n": 2}, None]
        self.assertEqual(states_of(told)[:6], [first[0], first[1], first[2], first[3], first[4], first[5]])
        # baa comes ahead of bba, which is the first one that is stopped
        self.assertEqual(states_of(told).index(None), 8)
        self.assertEqual(states_of(script("on a { stop; } on b { n = 1; }")), [{"m": 0, "n": 0}, None, {"m": 0, "n": 1}])
        self.assertEqual(states_of(script("on b { stop; } on a { n = 1; }")), [{"m": 0, "n": 0}, {"m": 0, "n": 1}, None])

    def test_counters_ascending(self):
        told = read_script("letters a; counter zz 1; counter b 1; counter aa 1; on a { zz = 1; }")
        self.assertEqual([list(state.items()) for state in states_of(told)],
                         [[("aa", 0), ("b", 0), ("zz", 0)], [("aa", 0), ("b", 0), ("zz", 1)]])

    def test_without_counters(self):
        self.assertEqual(states_of(read_script("letters a; text x; on a { x = x \"a\"; }")), [{}])
        self.assertEqual(states_of(read_script("letters a; on a { stop; }")), [{}, None])

    def test_just_those_that_texts_lead_to(self):
        self.assertEqual(states_of(script("on a { n = n + 2; }")), [{"m": 0, "n": number} for number in (0, 2, 4, 5)])
        self.assertEqual(states_of(script("on a { n = 3; n = 1; }")), [{"m": 0, "n": 0}, {"m": 0, "n": 1}])

    def test_they_are_new(self):
        told = script("on a { n = n + 1; }")
        found = states_of(told)
        found[0]["n"] = 9
        found.pop()
        self.assertEqual(states_of(told), [{"m": 0, "n": number} for number in range(6)])


class Compiled(unittest.TestCase):
    def test_by_the_definition(self):
        for tree, told in made(300):
            program, states = compiled(told), states_of(told)
            self.assertIsInstance(program, Program)
            self.assertEqual((program.letters, program.states), ("ab", len(states)))
            self.assertEqual((program.registers, program.firsts), (sorted(tree["texts"]), tree["texts"]))
            nothing = {name: () for name in tree["texts"]}
            for number, state in enumerate(states):
                for letter in "ab":
                    step = None if state is None else one_step(tree, state, letter)
                    expected = (states.index(None), nothing) if step is None else (states.index(step[0]), step[1])
                    self.assertEqual(program.steps[(number, letter)], expected)
                self.assertEqual(program.ends.get(number), None if state is None else row_at_end(tree, state))
            self.assertEqual(Program(program.letters, program.states, program.registers, program.firsts, program.steps,
                                     program.ends), program)

    def test_against_running(self):
        for tree, told in made(180, 3, "abc"):
            program = compiled(told)
            for text in every_text("abc", 4):
                self.assertEqual(program(text), run_script(told, text))
                self.assertEqual(program(text), Followed(tree, text).written())

    def test_the_letter_that_stops_and_what_is_stopped(self):
        program = compiled(script('on a { x = x "a"; n = 1; if true { stop; } y = x; } on b { y = "b"; } end: y;'))
        nothing = {"x": (), "y": (), "z": ()}
        self.assertEqual(program.steps, {(0, "a"): (1, nothing), (0, "b"): (0, {"x": (("x",),), "y": ("b",), "z": (("z",),)}),
                                         (1, "a"): (1, nothing), (1, "b"): (1, nothing)})
        self.assertEqual(program.ends, {0: (("y",),)})

    def test_ends(self):
        program = compiled(script('on a { n = n + 1; } end when n = 1: "a" "b" "" x "c"; end when n = 2: none; end when n < 4: ; '
                                  'end when n = 5: x;'))
        self.assertEqual(program.ends, {0: (), 1: ("ab", ("x",), "c"), 3: (), 5: (("x",),)})

    def test_without_texts_rules_and_ends(self):
        self.assertEqual(compiled(read_script("letters ba;")), Program("ab", 1, [], {}, {(0, "a"): (0, {}), (0, "b"): (0, {})}, {}))

    def test_copies(self):
        program = compiled(script("on a { x = x y; y = x; } end: x;"))
        self.assertEqual(program.steps[(0, "a")][1]["y"], (("x",), ("y",)))
        self.assertFalse(is_plain(program))

    def test_it_is_new(self):
        told = script('on a { x = x "a"; } on b { stop; } end: x;')
        one, other = compiled(told), compiled(told)
        self.assertFalse(shares(one, other))
        self.assertIsNot(one.firsts, told.texts)
        one.firsts["x"] = "z"
        one.steps[(0, "b")][1]["x"] = ("z",)
        one.ends.clear()
        self.assertEqual(compiled(told), other)

    def test_the_script_is_not_changed(self):
        for tree, told in made(60, 7):
            compiled(told)
            states_of(told)
            self.assertEqual(told, read_script(script_text(tree)))


class Limits(unittest.TestCase):
    def fine(self, told):
        self.assertEqual(compiled(told).states, len(states_of(told)))

    def too_large(self, told):
        for call in (compiled, states_of):
            with self.assertRaises(TooLarge):
                call(told)

    def test_300_states(self):
        self.fine(read_script("letters a; counter n 299; on a { n = n + 1; }"))
        self.assertEqual(compiled(read_script("letters a; counter n 299; on a { n = n + 1; }")).states, 300)
        self.fine(read_script("letters a; counter n 298; on a { if n = 298 { stop; } n = n + 1; }"))
        self.too_large(read_script("letters a; counter n 299; on a { if n = 299 { stop; } n = n + 1; }"))
        self.too_large(read_script("letters ab; counter n 299; counter m 1; on a { n = n + 1; } on b when n = 299 { m = 1; }"))
        self.fine(read_script("letters ab; counter n 149; counter m 1; on a { n = n + 1; } on b { m = 1; }"))
        self.too_large(read_script("letters ab; counter n 150; counter m 1; on a { n = n + 1; } on b { m = 1; }"))

    def test_far_more_states(self):
        names = "fghijk"
        self.too_large(read_script("letters ab; " + "".join(f"counter {name} 299; " for name in names) + "on a { "
                                   + "".join(f"{name} = {name} + {place + 1}; " for place, name in enumerate(names)) + "} on b { "
                                   + "".join(f"{name} = {name} + {7 - place}; " for place, name in enumerate(names)) + "}"))

    def test_400_texts_and_registers_in_a_row(self):
        for item, more in (("x", ""), ("x y", ""), ('x "a"', ""), ('"a" x', "")):
            whole = " ".join(item.split() * 400)
            row = " ".join(whole.split()[:400])
            self.fine(script("on a { z = " + row + "; }"))
            self.too_large(script("on a { z = " + row + " y; }"))
            self.too_large(script('on a { z = "b" ' + row + "; }"))

    def test_texts_side_by_side_are_one_behind_the_statement(self):
        row = '"a" ' * 400
        self.fine(script("on a { z = " + row + "; z = z " + row[4:] + "; z = z " + row[4:] + '; y = z z z "b"; }'))
        self.too_large(script("on a { z = " + row + '"a"; }'))
        self.too_large(script("on a { z = " + row + "; z = z " + row + "; }"))
        self.fine(script('on a { y = "a" x "b"; ' + "z = " + "y " * 133 + ' "c"; }'))
        self.too_large(script('on a { y = "a" x "b"; ' + "z = " + "y " * 133 + ' "c" "d"; }'))
        # behind it two texts are one between two x, so there are 2 * 133 + 1 left
        self.fine(script('on a { y = "a" x "b"; ' + "z = " + "y " * 133 + ";" + "z = z " + "y " * 44 + '"c"; }'))
        self.too_large(script('on a { y = "a" x "b"; ' + "z = " + "y " * 133 + ";" + "z = z " + "y " * 44 + '"c" "d"; }'))

    def test_rows_that_are_not_kept(self):
        row = "x " * 401
        for told in ("on a { z = " + row + "; z = ; }", "on a { z = " + row + "; stop; }", "on a { stop; } on b { x = " + row + "; x = ; }",
                     "part p(t) { t = " + row + "; t = ; } on a { do p(y); }", "on b { n = 5; } on a when n = 5 { z = " + row + "; x = ; z = ; }",
                     "on a { x = x x; " + "x = x x; " * 8 + "x = ; }", "on a { if n = 1 { y = " + row + "; y = ; } n = 1; }"):
            self.too_large(script(told))

    def test_what_is_not_done_does_not_count(self):
        row = "x " * 401
        for told in ("on a { if n = 1 { z = " + row + "; } }", "on a { stop; z = " + row + "; }", "on a when n = 1 { z = " + row + "; }",
                     "part p(t) { t = " + row + "; } on a { }", "on a { } on a { z = " + row + "; }", "end: " + row + ";",
                     "on a { stop; } on b { } on b { x = " + row + "; }", "on a { x = ; " + "x = x x; " * 9 + "}"):
            self.fine(script(told))
        self.fine(script('on a { x = "a"; ' + "x = x x; " * 9 + "}"))

    def test_what_is_no_script_comes_first(self):
        for wrong in (None, "letters a;", 1, [script("")], echo(), True):
            for call in (states_of, compiled):
                with self.assertRaises(BadScript):
                    call(wrong)


class Judged(unittest.TestCase):
    def test_against_short_texts_and_judge_same(self):
        kinds = {True: 0, False: 0, None: 0}
        scripts = [told for _, told in made(120)]
        for number, one in enumerate(scripts):
            for other in (scripts[(number * 7 + 3) % len(scripts)], read_script(write_script(one)), without_last_end(one)):
                if not judge_thrifty(compiled(one)) or not judge_thrifty(compiled(other)):
                    with self.assertRaises(NotThrifty):
                        judge_scripts(one, other)
                    kinds[None] += 1
                    continue
                found = judge_scripts(one, other)
                self.assertEqual(found, judge_same(compiled(one), compiled(other)))
                self.assertTrue(found.shows(compiled(one), compiled(other)))
                text = first_text(lambda told: run_script(one, told) != run_script(other, told), "ab", 6)
                self.assertIsInstance(found, Same if text is None else Differ)
                if text is not None:
                    self.assertEqual(found.text, text)
                kinds[bool(found)] += 1
        self.assertGreater(min(kinds[True], kinds[False]), 100, kinds)
        self.assertGreater(kinds[None], 2)

    def test_long_texts(self):
        one = script("on a { n = n + 1; } on b { n = 0; } end when n < 5: x;")
        found = judge_scripts(one, script("end: x;"))
        self.assertEqual(found.text, "aaaaa")
        far = "letters a; counter n 99; counter m 99; text x; on a when n < 99 { n = n + 1; x = x \"a\"; } on a when m < 99 { m = m + 1; } "
        self.assertEqual(judge_scripts(read_script(far + "end: x;"), read_script(far + "end when m < 99: x;")).text, "a" * 198)
        self.assertTrue(judge_scripts(read_script(far + "end: x;"), read_script(far + 'on a { } end when m < 99: x; end: x;')))

    def test_which_error_comes_first(self):
        large = read_script("letters b; text x; counter n 299; counter m 1; on b when n = 299 { m = 1; } on b { n = n + 1; x = x x; } end: x;")
        double = read_script("letters ab; text x; on a { x = x x; } end: x;")
        other = read_script("letters a; text x; on a { x = x x; } end: x;")
        fine = read_script("letters ab; end: ;")
        for one, told in ((None, large), (large, None), (double, 1), (1, double), ("", ""), (large, "letters b;")):
            with self.assertRaises(BadScript):
                judge_scripts(one, told)
        for one, told in ((large, double), (double, large), (large, other), (fine, large), (large, large)):
            with self.assertRaises(TooLarge):
                judge_scripts(one, told)
        for one, told in ((double, other), (other, fine), (other, double)):
            with self.assertRaises(Unlike) as caught:
                judge_scripts(one, told)
            self.assertEqual(caught.exception.what, "letters")
        for one, told in ((double, fine), (fine, double), (double, double)):
            with self.assertRaises(NotThrifty):
                judge_scripts(one, told)

    def test_too_large_as_judge_same(self):
        # no marks may be followed at all, so that what goes beyond the limits is refused
        one, other = script('on a { x = x "a"; } end: x;'), script('on a { x = x "a"; y = ; } end: x;')
        self.assertTrue(judge_scripts(one, other))
        with mock.patch("passtexts.marks.MOST_NODES", 0):
            with self.assertRaises(TooLarge):
                judge_scripts(one, other)


def without_last_end(told):
    """The script without the line of its last end, that is, with one that refuses in its place."""
    lines = write_script(told).rstrip("\n").split("\n")
    return read_script("\n".join(lines[:-1] + ["end: none;"]))


def programs():
    """Programs of which script_of is asked: made ones, turned, kept, behind one another, and some by hand."""
    moves = PLAIN_MOVES + COPY_MOVES
    for number in range(180):
        yield counted(number, "ab" if number % 3 else "a", 1 + number % 4, moves if number % 2 else PLAIN_MOVES)
    for number in range(0, 60, 4):
        program = counted(number, "ab", 1 + number % 3)
        yield turned(program)
        yield kept(program, TextSet("ab", [{"a": 1, "b": 0}, {"a": 0, "b": 2}, {"a": 2, "b": 2}], [0, 2]))
        yield behind(program, turning())
        yield trimmed(program)
    for program in (echo("abcd", 15), copying(), doubling(), halves(), behind(halves(), turning()), echo("0z", 30),
                    Program("a", 1, [], {}, {(0, "a"): (0, {})}, {}), Program("a", 60, [], {}, {(state, "a"): (state * 7 % 60, {})
                                                                              for state in range(60)}, {0: ("a",), 59: ()})):
        yield program


class ScriptsOfPrograms(unittest.TestCase):
    def test_they_write_the_same(self):
        plain = 0
        for program in programs():
            told = script_of(program)
            self.assertIsInstance(told, Script)
            self.assertEqual(told.letters, program.letters)
            for text in every_text(program.letters, 5 if len(program.letters) < 3 else 3):
                self.assertEqual(run_script(told, text), program(text))
            again = compiled(told)
            self.assertEqual(again.states, len(program.reached()))
            self.assertLessEqual(len(again.registers), 2 * len(program.registers))
            if judge_thrifty(program):
                self.assertTrue(write_same(program, again))
            if is_plain(program):
                self.assertTrue(is_plain(again))
                plain += 1
        self.assertGreater(plain, 120)

    def test_they_have_no_parts_and_can_be_written_and_read(self):
        for program in programs():
            told = script_of(program)
            text = write_script(told)
            self.assertNotIn("part ", text)
            self.assertEqual(read_script(text), told)

    def test_all_registers_take_their_rows_at_once(self):
        program = Program("a", 1, ["x", "y", "z"], {"x": "a", "y": "b", "z": "c"},
                          {(0, "a"): (0, {"x": (("y",),), "y": (("z",),), "z": (("x",),)})}, {0: (("x",), ("y",), ("z",))})
        told = script_of(program)
        self.assertEqual([run_script(told, "a" * many) for many in range(4)], ["abc", "bca", "cab", "abc"])
        self.assertTrue(is_plain(compiled(told)))
        self.assertLessEqual(len(compiled(told).registers), 6)

    def test_states_that_no_text_leads_to(self):
        program = Program("a", 5, ["x"], {}, {(state, "a"): ((4, 0, 3, 2, 4)[state], {"x": ("a", ("x",))}) for state in range(5)},
                          {state: (("x",), "b") for state in range(5)})
        told = script_of(program)
        self.assertEqual(compiled(told).states, 2)
        self.assertEqual([run_script(told, "a" * many) for many in range(3)], ["b", "ab", "aab"])

    def test_registers_whose_names_are_words_of_scripts(self):
        names = ["letters", "counter", "text", "part", "on", "when", "any", "end", "none", "if", "else", "do", "stop", "and", "or",
                 "not", "true", "a", "b", "c", "d"]
        steps = {(0, "a"): (1, {name: ((names[place - 1],), "ab"[place % 2]) for place, name in enumerate(names)}),
                 (1, "a"): (0, {"on": ("a", ("on",))})}
        program = Program("a", 2, names, {name: "a" for name in names[::3]}, steps, {1: tuple((name,) for name in names), 0: (("if",),)})
        told = script_of(program)
        self.assertEqual(read_script(write_script(told)), told)
        for text in every_text("a", 6):
            self.assertEqual(run_script(told, text), program(text))

    def test_limits(self):
        names = [word_of(number) for number in range(31)]

        def wide(many):
            rows = {name: ("a", (names[place - 1],)) for place, name in enumerate(names[:many])}
            rows[names[0]] = ((names[many - 1],), "b")
            return Program("a", 1, names[:many], {names[1]: "c"}, {(0, "a"): (0, rows)}, {0: tuple((name,) for name in names[:many])})

        self.assertEqual(run_script(script_of(wide(30)), "aaa"), wide(30)("aaa"))
        self.assertLessEqual(len(compiled(script_of(wide(30))).registers), 60)
        with self.assertRaises(TooLarge):
            script_of(wide(31))
        for letters, states in (("a", 60), ("ab", 30), ("abc", 20), ("abcd", 15)):
            self.assertEqual(compiled(script_of(echo(letters, states))).states, states)
            with self.assertRaises(TooLarge):
                script_of(echo(letters, states + 1))
        # pairs of states that no text leads to count as well
        with self.assertRaises(TooLarge):
            script_of(Program("a", 61, [], {}, {(state, "a"): (0, {}) for state in range(61)}, {}))

    def test_what_is_no_program_comes_first(self):
        for wrong in (None, "letters a", 1, script(""), [echo()]):
            with self.assertRaises(BadProgram) as caught:
                script_of(wrong)
            self.assertIsNone(caught.exception.part)

    def test_the_program_is_neither_changed_nor_kept(self):
        for number in range(0, 60, 7):
            program, same = counted(number, "ab", 3), counted(number, "ab", 3)
            told = script_of(program)
            self.assertEqual(program, same)
            program.firsts["x"] = "zz"
            program.ends.clear()
            self.assertEqual(told, script_of(same))
            told.texts.clear()
            told.counters.clear()
            self.assertNotEqual(told, script_of(same))
            self.assertEqual(same, counted(number, "ab", 3))

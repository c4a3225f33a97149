"""Point [6]: programs one behind the other."""

import unittest

from passtexts.alike import Differ, Same, judge_same
from passtexts.behind import behind, judge_again, judge_commute, judge_undoes, text_itself
from passtexts.errors import BadProgram, NotPlain, NotThrifty, Unlike
from passtexts.programs import Program
from passtexts.thrifty import is_plain, judge_thrifty
from tests.helpers import (COPY_MOVES, PLAIN_MOVES, copying, counted, doubling, echo, ending, every_text, first_text,
                           shares)


def turning():
    """Writes the text turned about."""
    steps = {(0, letter): (0, {"x": (letter, ("x",))}) for letter in "ab"}
    return Program("ab", 1, ["x"], {}, steps, {0: (("x",),)})


def leaving_out(letter):
    """Writes the text without a letter."""
    steps = {(0, told): (0, {"x": (("x",), told)} if told != letter else {}) for told in "ab"}
    return Program("ab", 1, ["x"], {}, steps, {0: (("x",),)})


def exchanging():
    """Writes a for b and b for a."""
    steps = {(0, "a"): (0, {"x": (("x",), "b")}), (0, "b"): (0, {"x": (("x",), "a")})}
    return Program("ab", 1, ["x"], {}, steps, {0: (("x",),)})


def every_other(states):
    """Writes the text without its first letter of each two, or three and so on."""
    steps = {(state, letter): ((state + 1) % states, {"x": (("x",), letter)} if state else {})
             for state in range(states) for letter in "ab"}
    return Program("ab", states, ["x"], {}, steps, {state: (("x",),) for state in range(states)})


def halves():
    """Writes the letters b ahead of the letters a, and refuses texts of odd length."""
    steps = {(state, letter): (1 - state, {letter: ((letter,), letter)}) for state in (0, 1) for letter in "ab"}
    return Program("ab", 2, ["a", "b"], {}, steps, {0: (("b",), ("a",))})


def done_twice(one, other, text):
    between = one(text)
    return None if between is None else other(between)


def some_pairs():
    """Pairs of which behind is asked: small ones with a register, or with two."""
    shapes = (turning(), leaving_out("a"), exchanging(), every_other(2), every_other(3), halves(), echo())
    for one in shapes + (copying(), ending(copying(), {0: ("ab", ("x",), "b")})):
        for other in shapes:
            yield one, other
    for number in range(120):
        one = counted(number, "ab", 1 + number % 2, PLAIN_MOVES + COPY_MOVES if number % 2 else PLAIN_MOVES)
        if judge_thrifty(one):
            yield one, counted(number + 104729, "ab", 1 + number % 3)


def states_needed(one, other):
    """How many pairs of a state and of the shapes of what registers hold texts lead to, by reading them."""
    def shape(text):
        found = []
        for state in range(other.states):
            rows = {name: [name] for name in other.registers}
            for sign in text:
                state, moves = other.steps[(state, sign)]
                rows = {name: [told for item in moves[name] if not isinstance(item, str) for told in rows[item[0]]]
                        for name in other.registers}
            found.append((state, tuple(tuple(rows[name]) for name in other.registers)))
        return tuple(found)

    places = set()
    waiting = [""]
    while waiting:
        text = waiting.pop()
        state, held = one.after(text)
        place = (state, tuple(shape(held[name]) for name in one.registers))
        if place not in places:
            places.add(place)
            waiting.extend(text + letter for letter in one.letters)
    return len(places)


class Behind(unittest.TestCase):
    def test_against_doing_both(self):
        for one, other in some_pairs():
            found = behind(one, other)
            self.assertIsInstance(found, Program)
            self.assertEqual(found.letters, one.letters)
            for text in every_text("ab", 5):
                self.assertEqual(found(text), done_twice(one, other, text), text)

    def test_thrifty_and_no_more_registers_than_told(self):
        for one, other in some_pairs():
            found = behind(one, other)
            self.assertTrue(judge_thrifty(found))
            most = len(one.registers) * other.states * 2 * len(other.registers)
            self.assertLessEqual(len(found.registers), most)

    def test_no_more_states_than_told(self):
        for one, other in some_pairs():
            self.assertLessEqual(behind(one, other).states, states_needed(one, other))

    def test_plain(self):
        told = 0
        for one, other in some_pairs():
            if is_plain(one) and other.states == 1:
                self.assertTrue(is_plain(behind(one, other)))
                told += 1
        self.assertGreater(told, 40)

    def test_it_is_a_whole_program(self):
        told = [behind(one, other) for one, other in some_pairs()]
        # behind is asked only where no more states are needed
        whole = [found for found in told if found.states <= 300]
        self.assertGreater(len(whole), len(told) - 5)
        for found in whole:
            self.assertEqual(Program(found.letters, found.states, found.registers, found.firsts, found.steps,
                                     found.ends), found)

    def test_what_either_refuses(self):
        found = behind(halves(), every_other(2))
        self.assertEqual([found(text) for text in ("", "a", "ab", "abab", "aba")], ["", None, "a", "ba", None])
        refusing = ending(every_other(2), {1: (("x",),)})
        found = behind(echo(), refusing)
        self.assertEqual([found(text) for text in ("", "a", "ab", "aba")], [None, "", None, "b"])
        self.assertIsNone(behind(ending(echo(), {}), echo())("ab"))
        self.assertIsNone(behind(echo(), ending(echo(), {}))("ab"))

    def test_letters_that_are_unlike(self):
        steps = {(0, "a"): (0, {"x": (("x",), "cd")}), (0, "b"): (0, {"x": (("x",), "0")})}
        one = Program("ab", 1, ["x"], {"x": "d"}, steps, {0: (("x",), "c")})
        steps = {(0, letter): (0, {"y": (("y",), "e")}) for letter in "0cd"}
        other = Program("0cd", 1, ["y"], {"y": "f"}, steps, {0: (("y",), "g")})
        self.assertEqual(behind(one, other)("ab"), "f" + "e" * 5 + "g")
        self.assertEqual(behind(one, other).letters, "ab")

    def test_pieces_that_come_up_later(self):
        steps = {(0, "a"): (0, {"x": ("b",)}), (0, "b"): (0, {"x": (("x",), "b")})}
        one = Program("ab", 1, ["x"], {"x": "a"}, steps, {0: (("x",),)})
        steps = {(0, "a"): (0, {"y": ("a",)}), (0, "b"): (0, {"y": ("b", ("y",), "ab")})}
        other = Program("ab", 1, ["y"], {"y": "b"}, steps, {0: (("y",), "b")})
        found = behind(one, other)
        for text in every_text("ab", 5):
            self.assertEqual(found(text), other(one(text)))

    def test_several_states_and_registers(self):
        steps = {(0, "a"): (0, {"x": (("x",), "b"), "y": (("z",), "a"), "z": (("y",),)}),
                 (0, "b"): (0, {"x": (("y",), "a", ("x",)), "y": ("b",)})}
        one = Program("ab", 1, ["x", "y", "z"], {"y": "ab", "z": "b"}, steps, {0: (("z",), ("x",), "b", ("y",))})
        steps = {(state, "a"): ((state * 2 + 1) % 3, {"u": (("v",), "a"), "v": (("u",), str(state))})
                 for state in range(3)}
        steps.update({(state, "b"): ((state + 3) % 3, {"u": (("u",), "c", ("v",)), "v": (str(state),)})
                      for state in range(3)})
        other = Program("ab", 3, ["u", "v"], {"v": "e"}, steps, {state: (("v",), "d", ("u",)) for state in range(3)})
        found = behind(one, other)
        self.assertLessEqual(len(found.registers), 3 * 3 * 2 * 2)
        self.assertLessEqual(found.states, states_needed(one, other))
        self.assertTrue(judge_thrifty(found))
        for text in every_text("ab", 8):
            self.assertEqual(found(text), other(one(text)))

    def test_no_registers(self):
        constant = Program("ab", 1, [], {}, {(0, "a"): (0, {}), (0, "b"): (0, {})}, {0: ("ba",)})
        self.assertEqual(behind(constant, turning())("bbb"), "ab")
        self.assertEqual(behind(turning(), constant)("bbb"), "ba")

    def test_long_first_contents(self):
        one = Program("a", 1, ["x"], {"x": "ab" * 2000}, {(0, "a"): (0, {"x": (("x",), "b")})}, {0: (("x",),)})
        self.assertEqual(behind(one, turning())("aa"), "bb" + "ba" * 2000)

    def test_new_and_unchanged(self):
        one, other = echo(), turning()
        found = behind(one, other)
        self.assertFalse(shares(found, one) or shares(found, other))
        self.assertEqual([one, other], [echo(), turning()])
        self.assertEqual(behind(one, other), found)
        itself = behind(one, one)
        self.assertFalse(shares(itself, one))

    def test_which_error_comes_first(self):
        two = Program("ab", 1, ["x"], {}, {(0, "a"): (0, {}), (0, "b"): (0, {})}, {0: ("c",)})
        for asked in (behind, judge_undoes, judge_commute):
            for one, other in ((None, None), (doubling(), 1), ("a", doubling()), (two, None)):
                with self.assertRaises(BadProgram) as caught:
                    asked(one, other)
                self.assertIsNone(caught.exception.part)
            for other in (echo(), doubling(), copying(), echo("a")):
                with self.assertRaises(NotThrifty):
                    asked(doubling(), other)
            for one in (echo(), copying(), two):
                for other in (copying(), doubling()):
                    with self.assertRaises(NotPlain):
                        asked(one, other)
            with self.assertRaises(Unlike) as caught:
                asked(two, echo())
            self.assertEqual(caught.exception.what, "signs")

    def test_signs_in_all_rows_and_first_contents_have_to_be_read(self):
        steps = {(0, "a"): (0, {"x": ("a",)}), (1, "a"): (1, {"x": ("b",)})}
        only = echo("a")
        good = Program("a", 1, ["x"], {}, {(0, "a"): (0, {})}, {0: ("a",)})
        self.assertEqual(behind(good, only)("a"), "a")
        for wrong in (Program("a", 2, ["x"], {}, steps, {}), Program("a", 1, ["x"], {"x": "c"}, {(0, "a"): (0, {})}, {}),
                      Program("a", 1, ["x"], {}, {(0, "a"): (0, {})}, {0: ("c",)})):
            with self.assertRaises(Unlike) as caught:
                behind(wrong, only)
            self.assertEqual(caught.exception.what, "signs")


class TextItself(unittest.TestCase):
    def test_writes_the_text_where_it_is_not_refused(self):
        for program in (halves(), turning(), copying(), doubling(), ending(every_other(3), {2: ()})):
            found = text_itself(program)
            self.assertEqual((found.letters, found.states, len(found.registers)), (program.letters, program.states, 1))
            self.assertTrue(is_plain(found))
            for text in every_text("ab", 5):
                self.assertEqual(found(text), None if program(text) is None else text)

    def test_states_that_no_text_leads_to_stay(self):
        steps = {(state, "a"): (0, {}) for state in range(5)}
        self.assertEqual(text_itself(Program("a", 5, [], {}, steps, {3: ()})).states, 5)

    def test_no_program(self):
        for asked in (text_itself, judge_again):
            with self.assertRaises(BadProgram) as caught:
                asked("ab")
            self.assertIsNone(caught.exception.part)

    def test_new_and_unchanged(self):
        program = echo()
        self.assertFalse(shares(text_itself(program), program))
        self.assertEqual(program, echo())


class Judged(unittest.TestCase):
    def test_undoes(self):
        kinds = {True: 0, False: 0}
        for one, other in some_pairs():
            found = judge_undoes(one, other)
            kinds[bool(found)] += 1
            text = first_text(lambda told: one(told) is not None and done_twice(one, other, told) != told, "ab", 5)
            if found:
                self.assertIsInstance(found, Same)
                self.assertIsNone(text)
            else:
                self.assertIsInstance(found, Differ)
                self.assertTrue(found.text == text or text is None and len(found.text) > 5)
        self.assertGreater(min(kinds.values()), 3)

    def test_what_undoes_what(self):
        self.assertTrue(judge_undoes(turning(), turning()))
        self.assertTrue(judge_undoes(exchanging(), exchanging()))
        self.assertTrue(judge_undoes(echo(), ending(echo("ab", 3), {state: (("x",),) for state in range(3)})))
        self.assertEqual(judge_undoes(turning(), exchanging()), Differ("a"))
        self.assertEqual(judge_undoes(leaving_out("b"), echo()), Differ("b"))
        refusing = ending(echo("ab", 2), {0: (("x",),)})
        self.assertTrue(judge_undoes(refusing, echo()))
        self.assertEqual(judge_undoes(echo(), refusing), Differ("a"))
        self.assertTrue(judge_undoes(refusing, refusing))

    def test_letters_may_be_unlike_where_one_undoes_the_other(self):
        one = Program("ab", 1, ["x"], {}, {(0, "a"): (0, {"x": (("x",), "c")}), (0, "b"): (0, {"x": (("x",), "dd")})},
                      {0: (("x",),)})
        steps = {(0, "c"): (0, {"x": (("x",), "a")}), (0, "d"): (1, {}), (1, "c"): (1, {}),
                 (1, "d"): (0, {"x": (("x",), "b")})}
        other = Program("cd", 2, ["x"], {}, steps, {0: (("x",),)})
        self.assertTrue(judge_undoes(one, other))

    def test_commute(self):
        shapes = (turning(), leaving_out("a"), leaving_out("b"), exchanging(), every_other(2), halves(), echo())
        for one in shapes:
            for other in shapes:
                found = judge_commute(one, other)
                text = first_text(lambda told: done_twice(one, other, told) != done_twice(other, one, told), "ab", 5)
                self.assertEqual(bool(found), text is None)
                self.assertEqual(found, judge_same(behind(one, other), behind(other, one)))
                if not found:
                    self.assertEqual(found, Differ(text))
        self.assertTrue(judge_commute(leaving_out("a"), leaving_out("b")))
        self.assertTrue(judge_commute(turning(), exchanging()))
        self.assertFalse(judge_commute(leaving_out("a"), exchanging()))

    def test_commute_is_refused_both_ways_round(self):
        with self.assertRaises(NotPlain):
            judge_commute(copying(), echo())
        constant = Program("ab", 1, [], {}, {(0, "a"): (0, {}), (0, "b"): (0, {})}, {0: ("c",)})
        with self.assertRaises(Unlike) as caught:
            judge_commute(echo(), constant)
        self.assertEqual(caught.exception.what, "signs")
        for one, other in ((echo("a"), echo("ab")), (echo("ab"), echo("a"))):
            with self.assertRaises(Unlike) as caught:
                judge_commute(one, other)
            self.assertEqual(caught.exception.what, "signs")

    def test_commute_needs_the_same_letters(self):
        one = Program("ab", 1, ["x"], {}, {(0, "a"): (0, {}), (0, "b"): (0, {})}, {0: ("a",)})
        other = Program("ac", 1, ["x"], {}, {(0, "a"): (0, {}), (0, "c"): (0, {})}, {0: ("a",)})
        self.assertEqual(behind(one, other)("b"), "a")
        with self.assertRaises(Unlike) as caught:
            judge_commute(one, other)
        self.assertEqual(caught.exception.what, "letters")

    def test_again(self):
        for program, again in ((echo(), True), (turning(), False), (leaving_out("a"), True), (exchanging(), False),
                               (every_other(2), False), (halves(), True), (ending(echo("ab", 2), {0: ("",)}), True)):
            found = judge_again(program)
            self.assertEqual(bool(found), again)
            text = first_text(lambda told: done_twice(program, program, told) != program(told), "ab", 5)
            self.assertEqual(text is None, again)
            self.assertEqual(found, judge_same(behind(program, program), program))
            if not found:
                self.assertEqual(found, Differ(text))

    def test_again_is_refused(self):
        with self.assertRaises(NotThrifty):
            judge_again(doubling())
        with self.assertRaises(NotPlain):
            judge_again(copying())
        with self.assertRaises(Unlike) as caught:
            judge_again(ending(echo(), {0: ("c",)}))
        self.assertEqual(caught.exception.what, "signs")

    def test_what_is_shown(self):
        found = judge_undoes(turning(), turning())
        self.assertTrue(found.shows(behind(turning(), turning()), text_itself(turning())))
        found = judge_undoes(turning(), echo())
        self.assertTrue(found.shows(behind(turning(), echo()), text_itself(turning())))

    def test_the_most_that_is_asked(self):
        # 5 registers, a state, 2 times 6 registers
        names = ["a", "b", "c", "d", "e"]
        steps = {(0, letter): (0, {name: ((names[number - 1],), letter) for number, name in enumerate(names)})
                 for letter in "ab"}
        one = Program("ab", 1, names, {}, steps, {0: tuple((name,) for name in names)})
        told = ["u", "v", "w", "x", "y", "z"]
        steps = {(0, letter): (0, {name: ((told[number - 1],),) for number, name in enumerate(told)} if letter == "a"
                               else {"u": (("u",), "b")}) for letter in "ab"}
        other = Program("ab", 1, told, {}, steps, {0: tuple((name,) for name in told)})
        found = behind(one, other)
        self.assertTrue(is_plain(found))
        self.assertLessEqual(len(found.registers), 60)
        for text in every_text("ab", 6):
            self.assertEqual(found(text), other(one(text)))

"""Point [23]: how long what is written can be."""

import itertools
import unittest
from math import gcd

from passtexts.errors import BadNumber, BadProgram, NotThrifty
from passtexts.longest import Rate, judge_rate, longest, most_length
from passtexts.programs import Program
from passtexts.thrifty import judge_thrifty
from tests.helpers import COPY_MOVES, PLAIN_MOVES, copying, counted, doubling, echo, ending


def tried(program, many):
    """The greatest length of what is written for texts of so many letters, by trying them all."""
    written = [program("".join(letters)) for letters in itertools.product(program.letters, repeat=many)]
    return max((len(text) for text in written if text is not None), default=None)


def some_programs(many):
    for number in range(many):
        program = counted(number, "ab" if number % 3 else "a", 1 + number % 4, PLAIN_MOVES + COPY_MOVES)
        if judge_thrifty(program):
            yield program


def by_states(following, ends, first=""):
    """Writes so many signs with each step: following has, for a state and a letter, the next state and how many."""
    states = 1 + max(state for state, _ in following)
    letters = "".join(sorted({letter for _, letter in following}))
    steps = {key: (state, {"x": (("x",), "c" * many)}) for key, (state, many) in following.items()}
    return Program(letters, states, ["x"], {"x": first}, steps, {state: (("x",), "d" * many)
                                                                  for state, many in ends.items()})


def two_rings():
    """Puts in 3 signs for 2 letters on one ring, 5 signs for 3 letters on another one, and 9 on the way."""
    return by_states({(0, "a"): (1, 3), (1, "a"): (0, 0), (0, "b"): (2, 9), (1, "b"): (5, 0), (2, "a"): (3, 5),
                      (3, "a"): (4, 0), (4, "a"): (2, 0), (2, "b"): (2, 1), (3, "b"): (5, 0), (4, "b"): (5, 0),
                      (5, "a"): (5, 7), (5, "b"): (5, 7)}, {2: 1, 0: 0})


class Longest(unittest.TestCase):
    def test_against_trying_all_texts(self):
        for program in some_programs(150):
            for many in range(7 if program.letters == "ab" else 12):
                self.assertEqual(longest(program, many), tried(program, many))

    def test_lengths(self):
        program = by_states({(0, "a"): (1, 2), (1, "a"): (0, 0), (0, "b"): (0, 1), (1, "b"): (1, 0)}, {0: 3}, "ee")
        self.assertEqual([longest(program, many) for many in range(6)], [5, 6, 7, 8, 9, 10])
        self.assertEqual(longest(echo("ab", 3), 0), 0)
        self.assertEqual(longest(echo("ab", 3), 1000), 1000)
        self.assertEqual(longest(ending(echo("ab", 3), {1: (("x",),)}), 1000), 1000)
        self.assertEqual(longest(two_rings(), 4), tried(two_rings(), 4))

    def test_refused_texts(self):
        program = ending(echo("ab", 3), {1: (("x",), "c")})
        self.assertEqual([longest(program, many) for many in range(6)], [None, 2, None, None, 5, None])
        self.assertIsNone(longest(ending(echo(), {}), 7))
        self.assertIsNone(longest(program, 999))

    def test_registers_that_are_thrown_away(self):
        steps = {(0, "a"): (0, {"x": (("x",), ("x",)), "y": (("y",), "aa")})}
        program = Program("a", 1, ["x", "y"], {"x": "a", "y": "b"}, steps, {0: (("y",),)})
        self.assertEqual(longest(program, 1000), 2001)

    def test_copies_of_which_one_is_taken(self):
        for many in range(8):
            self.assertEqual(longest(copying(), many), tried(copying(), many))

    def test_states_that_no_text_leads_to(self):
        steps = {(state, "a"): (0, {"x": (("x",), "a" * state)}) for state in range(3)}
        program = Program("a", 3, ["x"], {}, steps, {state: (("x",), "b" * state) for state in range(3)})
        self.assertEqual([longest(program, many) for many in range(3)], [0, 0, 0])
        self.assertEqual((judge_rate(program).top, most_length(program)), (0, 0))
        self.assertEqual(judge_rate(program).heights, {(0, ("x",)): 0})

    def test_many_states_and_letters(self):
        program = echo("abcd", 300)
        self.assertEqual(longest(program, 1000), 1000)
        self.assertEqual(longest(by_states({(state, "a"): ((state + 1) % 300, state) for state in range(300)},
                                           {state: 0 for state in range(300)}), 1000), 3 * 299 * 150 + 99 * 50)

    def test_numbers(self):
        for wrong in (-1, 1001, True, False, None, "1", 1.0, [1], 10 ** 30):
            with self.assertRaises(BadNumber):
                longest(echo(), wrong)


class Rates(unittest.TestCase):
    def check(self, program):
        found = judge_rate(program)
        if found is None:
            self.assertTrue(all(longest(program, many) is None for many in range(20, 40)))
            return None
        self.assertIsInstance(found, Rate)
        self.assertTrue(found.shows(program))
        self.assertEqual(gcd(found.top, found.below), 1)
        self.assertGreaterEqual(found.below, 1)
        written = [program(found.ahead + found.ring * turns + found.behind) for turns in range(4)]
        for turns in range(3):
            self.assertEqual((len(written[turns + 1]) - len(written[turns])) * found.below,
                             found.top * len(found.ring))
        return found

    def test_against_trying_all_texts(self):
        kinds = {"none": 0, "nothing": 0, "more": 0}
        for program in some_programs(240):
            found = self.check(program)
            kinds["none" if found is None else "more" if found.top else "nothing"] += 1
            if found is None:
                continue
            # what comes beside the rings is less than a number, however many letters are read
            beside = max((longest(program, many) or 0) * found.below - found.top * many for many in range(30))
            for many in range(150, 200):
                length = longest(program, many)
                self.assertTrue(length is None or length * found.below <= found.top * many + beside)
            if found.top:
                turns = 200 // len(found.ring)
                many = len(found.ahead) + turns * len(found.ring) + len(found.behind)
                self.assertGreaterEqual(longest(program, many) * found.below, found.top * turns * len(found.ring))
        self.assertGreater(min(kinds.values()), 15)

    def test_rates(self):
        found = self.check(two_rings())
        self.assertEqual((found.top, found.below), (5, 3))
        for program, top, below in (
                (echo("ab", 7), 1, 1), (ending(echo(), {0: ("a",)}), 0, 1), (copying(), 1, 1),
                (by_states({(0, "a"): (1, 4), (1, "a"): (0, 2)}, {0: 0}), 3, 1),
                (by_states({(0, "a"): (1, 4), (1, "a"): (0, 3)}, {1: 0}), 7, 2),
                (by_states({(0, "a"): (0, 0), (0, "b"): (1, 100), (1, "a"): (1, 0), (1, "b"): (0, 0)}, {0: 0}), 50, 1),
                (by_states({(0, "a"): (0, 0), (0, "b"): (1, 100), (1, "a"): (1, 0), (1, "b"): (1, 0)}, {1: 0}), 0, 1)):
            found = self.check(program)
            self.assertEqual((found.top, found.below), (top, below))

    def test_rings_that_do_not_come_to_an_end_do_not_count(self):
        self.assertEqual(judge_rate(by_states({(0, "a"): (0, 1), (0, "b"): (1, 0), (1, "a"): (1, 9), (1, "b"): (1, 9)},
                                              {0: 0})).top, 1)
        self.assertIsNone(judge_rate(ending(echo("ab", 3), {})))

    def test_no_rings(self):
        program = by_states({(0, "a"): (1, 2), (0, "b"): (2, 3), (1, "a"): (3, 4), (1, "b"): (3, 0), (2, "a"): (3, 0),
                             (2, "b"): (3, 1), (3, "a"): (3, 5), (3, "b"): (3, 5)}, {1: 0, 2: 0}, "ff")
        self.assertIsNone(judge_rate(program))
        self.assertEqual(most_length(program), 5)
        self.assertIsNone(longest(program, 2))

    def test_registers_that_change_places(self):
        steps = {(0, "a"): (0, {"x": (("y",), "cc"), "y": (("x",), "c")}), (0, "b"): (0, {"x": (), "y": (("y",), "c")})}
        program = Program("ab", 1, ["x", "y"], {}, steps, {0: (("x",),)})
        found = self.check(program)
        self.assertEqual((found.top, found.below), (3, 2))
        both = self.check(ending(program, {0: (("x",), ("y",))}))
        self.assertEqual((both.top, both.below), (3, 1))

    def test_many_nodes(self):
        names = list("abcdefghijk")
        steps = {(state, "a"): (1 - state, {name: ((names[place - 1],), "c" * (place * state % 3))
                                            for place, name in enumerate(names)}) for state in (0, 1)}
        steps.update({(state, "b"): (1 - state, {"a": ()}) for state in (0, 1)})
        program = Program("ab", 2, names, {}, steps, {state: tuple((name,) for name in names) for state in (0, 1)})
        found = self.check(program)
        self.assertEqual(len(found.heights), 4096)
        self.assertEqual((found.top, found.below), (5, 1))
        self.assertIsNone(most_length(program))

    def test_large_rings(self):
        program = by_states({(state, "a"): ((state + 1) % 299, state * 7 % 11) for state in range(299)}, {0: 0})
        found = self.check(program)
        self.assertEqual((found.top, found.below), (sum(state * 7 % 11 for state in range(299)), 299))

    def test_asked_again_and_unchanged(self):
        for program in list(some_programs(60))[::9]:
            self.assertEqual(judge_rate(program), judge_rate(program))
        program = copying()
        judge_rate(program).heights.clear()
        self.assertGreater(len(judge_rate(program).heights), 0)
        judge_rate(program).shows(program)
        longest(program, 5)
        most_length(program)
        self.assertEqual(program, copying())


class Shown(unittest.TestCase):
    def setUp(self):
        self.program = two_rings()
        self.found = judge_rate(self.program)

    def shown(self, **changed):
        told = {name: changed.get(name, getattr(self.found, name))
                for name in ("top", "below", "ahead", "ring", "behind", "heights")}
        return Rate(**told).shows(self.program)

    def test_as_found(self):
        self.assertTrue(self.shown())

    def test_fractions(self):
        for top, below in ((5, 2), (5, 4), (4, 3), (6, 3), (0, 1), (-5, -3), (5, -3), (5, 0), (0, 0), (3, 2), (1, 1),
                           (10 ** 30, 1), (5, 10 ** 30), (10, 6)):
            self.assertFalse(self.shown(top=top, below=below))

    def test_fractions_that_are_not_in_lowest_terms(self):
        for times in (2, 7, 10 ** 20):
            heights = {node: height * times for node, height in self.found.heights.items()}
            self.assertTrue(self.shown(top=5 * times, below=3 * times, heights=heights))
            self.assertFalse(self.shown(top=5 * times, below=3 * times))

    def test_a_fraction_that_is_reached_but_is_not_the_greatest(self):
        for heights in (self.found.heights, {node: 0 for node in self.found.heights},
                        {node: -height for node, height in self.found.heights.items()}):
            self.assertFalse(self.shown(top=3, below=2, ahead="", ring="aa", behind="", heights=heights))
            self.assertFalse(self.shown(top=1, below=1, ahead="b", ring="b", behind="", heights=heights))

    def test_rings(self):
        for ahead, ring, behind, shown in (("b", "aaa", "", True), ("b", "aaaaaa", "", True), ("b", "", "", False),
                                           ("aab", "aaa", "b", True), ("ba", "aaa", "aa", True), ("b", "aa", "", False),
                                           ("b", "aaa", "a", False), ("", "aaa", "b", False), ("b", "aaab", "", False),
                                           ("b", "aaa", "ab", False), ("", "aa", "", False), ("b", "aaa" * 200, "", True),
                                           ("bbb", "aaa", "bb", True), ("b" * 5000, "aaa", "b" * 5000, True)):
            self.assertEqual(self.shown(ahead=ahead, ring=ring, behind=behind), shown, (ahead, ring, behind))

    def test_texts_that_are_none(self):
        for wrong in ("c", "A", " ", "aaa ", "\n", "\u00e9", "a" * 999 + "!"):
            self.assertFalse(self.shown(ahead=wrong))
            self.assertFalse(self.shown(ring=wrong))
            self.assertFalse(self.shown(behind=wrong))

    def test_the_same_registers_have_to_be_live(self):
        steps = {(0, "a"): (0, {"x": (("y",), "cc"), "y": (("x",), "cc")})}
        program = Program("a", 1, ["x", "y"], {}, steps, {0: (("x",),)})
        found = judge_rate(program)
        self.assertEqual((found.top, found.below, len(found.ring)), (2, 1, 2))
        for ring, shown in (("a", False), ("aa", True), ("aaa", False), ("aaaa", True)):
            self.assertEqual(Rate(2, 1, "a", ring, "a", found.heights).shows(program), shown)

    def test_heights(self):
        found = self.found
        for node in found.heights:
            self.assertFalse(self.shown(heights={told: height for told, height in found.heights.items()
                                                 if told != node}))
        self.assertFalse(self.shown(heights={}))
        self.assertTrue(self.shown(heights={node: height + 10 ** 30 for node, height in found.heights.items()}))
        self.assertTrue(self.shown(heights={node: height - 7 for node, height in found.heights.items()}))
        ring = [node for node in found.heights if node[0] in (2, 3, 4)]
        self.assertEqual(len(ring), 3)
        for node in ring:
            for less in (-10 ** 30, -20, 20, 10 ** 30):
                self.assertFalse(self.shown(heights={**found.heights, node: found.heights[node] + less}))
        for wrong in ((), (0,), "x", None, 0, (0, "x"), (9, ("x",)), (0, ("y",)), (0, ("x", "x")), (5, ("x",)), (0, ())):
            self.assertFalse(self.shown(heights={**found.heights, wrong: 0}), wrong)
        many = {(number, ("x",)): 0 for number in range(20000)}
        self.assertFalse(self.shown(heights=many))
        self.assertFalse(self.shown(heights={**many, **found.heights}))

    def test_no_rings_and_no_rate(self):
        program = by_states({(0, "a"): (1, 2), (1, "a"): (1, 0)}, {0: 0})
        self.assertIsNone(judge_rate(program))
        self.assertFalse(Rate(0, 1, "", "a", "", {(0, ("x",)): 0}).shows(program))
        self.assertFalse(Rate(0, 1, "", "", "", {(0, ("x",)): 0}).shows(program))

    def test_changed_attributes(self):
        self.found.top = 6
        self.assertFalse(self.found.shows(self.program))
        self.found.top, self.found.ahead, self.found.behind = 5, "aab", "bbb"
        self.found.ring = "a" * 9
        self.assertTrue(self.found.shows(self.program))
        self.found.heights.popitem()
        self.assertFalse(self.found.shows(self.program))

    def test_evidence(self):
        node = (0, ("x",))
        rate = Rate(1, 2, "a", "b", "c", {node: 3})
        self.assertIs(bool(rate), True)
        self.assertEqual(rate, Rate(1, 2, "a", "b", "c", {node: 3}))
        for other in (Rate(2, 2, "a", "b", "c", {node: 3}), Rate(1, 1, "a", "b", "c", {node: 3}),
                      Rate(1, 2, "", "b", "c", {node: 3}), Rate(1, 2, "a", "", "c", {node: 3}),
                      Rate(1, 2, "a", "b", "", {node: 3}), Rate(1, 2, "a", "b", "c", {node: 4}),
                      Rate(1, 2, "a", "b", "c", {}), None, (1, 2)):
            self.assertNotEqual(rate, other)
        heights = {node: 3}
        rate = Rate(1, 2, "a", "b", "c", heights)
        heights.clear()
        self.assertEqual(rate.heights, {node: 3})


class MostLength(unittest.TestCase):
    def test_against_trying_all_texts(self):
        kinds = {True: 0, False: 0}
        for program in some_programs(240):
            found = most_length(program)
            kinds[found is None] += 1
            lengths = [longest(program, many) or 0 for many in range(25)]
            if found is None:
                self.assertGreater(max(lengths), max(lengths[:8]))
                self.assertGreater(max(longest(program, many) or 0 for many in range(100, 110)), max(lengths))
            else:
                self.assertEqual(max(lengths), found)
        self.assertGreater(min(kinds.values()), 30)

    def test_lengths(self):
        self.assertEqual(most_length(ending(echo(), {})), 0)
        self.assertEqual(most_length(ending(echo(), {0: ()})), 0)
        self.assertEqual(most_length(ending(echo("ab", 9), {4: ("a" * 5000,), 5: ("b",)})), 5000)
        self.assertIsNone(most_length(echo()))
        self.assertIsNone(most_length(copying()))
        rings = {(0, "a"): (0, 0), (0, "b"): (1, 5), (1, "a"): (1, 0), (1, "b"): (2, 6), (2, "a"): (2, 0), (2, "b"): (3, 0),
                 (3, "a"): (3, 1), (3, "b"): (3, 1)}
        self.assertEqual(most_length(by_states(rings, {0: 0, 1: 2, 2: 3}, "fff")), 17)
        self.assertEqual(most_length(by_states(rings, {0: 0, 1: 9, 2: 1}, "fff")), 17)
        self.assertIsNone(most_length(by_states(rings, {3: 0})))


class Refused(unittest.TestCase):
    def test_which_error_comes_first(self):
        for asked in (lambda program: longest(program, -1), judge_rate, most_length, Rate(0, 1, "", "a", "", {}).shows,
                      Rate(0, 0, "!", "", "", {}).shows):
            for wrong in (None, "ab", 1, [echo()]):
                with self.assertRaises(BadProgram) as caught:
                    asked(wrong)
                self.assertIsNone(caught.exception.part)
            with self.assertRaises(NotThrifty):
                asked(doubling())

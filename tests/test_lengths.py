"""Point [4]: whether two programs write for the same texts, and texts of the same lengths."""

import unittest

from passtexts.alike import Even, Uneven, judge_lengths
from passtexts.programs import Program
from passtexts.thrifty import judge_thrifty
from tests.helpers import (COPY_MOVES, PLAIN_MOVES, check_refusals, copying, counted, echo, ending,
                           every_text, first_text, first_uneven, size)


def some_pairs():
    """Pairs of thrifty programs: unlike ones, and ones that differ in an end, in a first content, or in nothing."""
    for number in range(250):
        letters = "ab" if number % 3 else "a"
        moves = PLAIN_MOVES if number % 2 else PLAIN_MOVES + COPY_MOVES
        one = counted(number, letters, 1 + number % 3, moves)
        other = counted(number + 7919, letters, 1 + number % 2, moves)
        for pair in ((one, other), (one, with_end(one, (("y",), ("x",)))), (one, with_first(one, "ab")), (one, one)):
            if judge_thrifty(pair[0]) and judge_thrifty(pair[1]):
                yield pair


def with_end(program, row):
    """The program with another row at the end of its last state."""
    return ending(program, {**program.ends, program.states - 1: row})


def with_first(program, text):
    return Program(program.letters, program.states, program.registers, {"x": text}, program.steps, program.ends)


def mirrored():
    """Writes the text, and the text turned about behind it."""
    steps = {(0, letter): (0, {"x": (("x",), letter), "y": (letter, ("y",))}) for letter in "ab"}
    return Program("ab", 1, ["x", "y"], {}, steps, {0: (("x",), ("y",))})


def twice_as_much():
    """Writes as much, with one register."""
    steps = {(0, letter): (0, {"z": (letter, ("z",), letter)}) for letter in "ab"}
    return Program("ab", 1, ["z"], {}, steps, {0: (("z",),)})


def waiting(states, row, row_behind):
    """Writes the text and a row, another one if it ends in so many letters a, less one, or more."""
    steps = {}
    for state in range(states):
        steps[(state, "a")] = (min(state + 1, states - 1), {"x": (("x",), "a")})
        steps[(state, "b")] = (0, {"x": (("x",), "b")})
    ends = {state: row for state in range(states)}
    ends[states - 1] = row_behind
    return Program("ab", states, ["x"], {}, steps, ends)


class Judged(unittest.TestCase):
    def test_against_all_short_texts(self):
        kinds = {True: 0, False: 0}
        for one, other in some_pairs():
            found = judge_lengths(one, other)
            self.assertTrue(found.shows(one, other))
            kinds[bool(found)] += 1
            longest = 6 if one.letters == "ab" else 12
            text = first_uneven(one, other, longest)
            if found:
                self.assertIsInstance(found, Even)
                self.assertIsNone(text)
            else:
                self.assertIsInstance(found, Uneven)
                self.assertTrue(text == found.text or text is None and len(found.text) > longest)
        self.assertGreater(min(kinds.values()), 150)

    def test_unlike_texts_of_the_same_lengths(self):
        found = judge_lengths(mirrored(), twice_as_much())
        self.assertEqual(found, Even({(0, ("x", "y"), 0, ("z",)): 0}))
        self.assertTrue(found.shows(mirrored(), twice_as_much()))

    def test_heights(self):
        steps = {(0, "a"): (1, {"x": (("x",), "bcd")}), (1, "a"): (0, {"x": (("x",), "b")})}
        one = Program("a", 2, ["x"], {"x": "a"}, steps, {0: (("x",),), 1: (("x",),)})
        even = {(0, "a"): (0, {"y": ("ab", ("y",))})}
        other = Program("a", 1, ["y"], {}, even, {0: (("y",), "c")})
        self.assertEqual(judge_lengths(one, other), Uneven("a"))
        later = Program("a", 2, ["x"], {"x": "a"}, steps, {0: (("x",),), 1: (("x",), "")})
        self.assertEqual(judge_lengths(later, one), Even({(0, ("x",), 0, ("x",)): 0, (1, ("x",), 1, ("x",)): 0}))
        halves = {(0, "a"): (1, {"y": ("ab", ("y",))}), (1, "a"): (0, {"y": ("ab", ("y",))})}
        other = Program("a", 2, ["y"], {}, halves, {0: (("y",), "c"), 1: (("y",), "cc")})
        found = judge_lengths(one, other)
        self.assertEqual(found.heights, {(0, ("x",), 0, ("y",)): -1, (1, ("x",), 1, ("y",)): -2})
        self.assertTrue(found.shows(one, other))
        self.assertTrue(judge_lengths(other, one).shows(other, one))
        for height in (0, -1, -3, 2):
            found.heights[(1, ("x",), 1, ("y",))] = height
            self.assertFalse(found.shows(one, other))

    def test_nodes_of_states_without_ends(self):
        steps = {(0, "a"): (1, {"x": (("x",), "a")}), (1, "a"): (0, {})}
        one = Program("a", 2, ["x"], {}, steps, {0: (("x",),)})
        other = Program("a", 2, ["x"], {}, {(0, "a"): (1, {}), (1, "a"): (0, {"x": ("b", ("x",))})}, {0: (("x",),)})
        self.assertEqual(judge_lengths(one, other), Even({(0, ("x",), 0, ("x",)): 0, (1, ("x",), 1, ("x",)): -1}))

    def test_registers_that_are_live_behind_some_texts_alone(self):
        steps = {(0, "a"): (0, {"x": (("x",), "a"), "y": (("y",), "a")}), (0, "b"): (1, {"x": ()}),
                 (1, "a"): (1, {}), (1, "b"): (1, {"x": (("y",),), "y": ()})}
        program = Program("ab", 2, ["x", "y"], {}, steps, {0: (("x",),), 1: (("x",),)})
        found = judge_lengths(program, program)
        self.assertIn((0, ("y",), 0, ("y",)), found.heights)
        self.assertIn((1, (), 1, ()), found.heights)
        self.assertTrue(found.shows(program, program))

    def test_refused_texts(self):
        every, some = echo("ab", 2), ending(echo("ab", 2), {0: (("x",),)})
        self.assertEqual(judge_lengths(every, some), Uneven("a"))
        self.assertEqual(judge_lengths(some, every), Uneven("a"))
        self.assertEqual(judge_lengths(some, some), Even({(state, ("x",), state, ("x",)): 0 for state in (0, 1)}))
        none = ending(every, {})
        self.assertEqual(judge_lengths(none, none), Even({}))
        self.assertTrue(Even({}).shows(none, none))
        self.assertEqual(judge_lengths(none, some), Uneven(""))

    def test_the_first_text(self):
        for states in (1, 2, 5, 9, 12):
            one, other = waiting(states, (("x",),), (("x",),)), waiting(states, (("x",),), (("x",), "c"))
            found = judge_lengths(one, other)
            self.assertEqual(found, Uneven("a" * (states - 1)))
            self.assertTrue(found.shows(one, other))

    def test_the_last_texts_that_have_to_be_found(self):
        steps = {(state, "a"): (min(state + 1, 60), {"x": (("x",), ("x",)), "y": (("y",), "a")}) for state in range(61)}
        ends = {state: (("y",),) for state in range(61)}
        one = Program("a", 61, ["x", "y"], {"x": "a"}, steps, ends)
        other = Program("a", 61, ["x", "y"], {"x": "a"}, steps, {**ends, 60: (("y",), "b")})
        self.assertEqual(judge_lengths(one, other), Uneven("a" * 60))
        word = "bbabbbabbbabab"
        steps = {(state, letter): (state + 1 if letter == word[state] else 15, {"x": (("x",), letter)})
                 for state in range(14) for letter in "ab"}
        steps.update({(state, letter): (15, {"x": (("x",), letter)}) for state in (14, 15) for letter in "ab"})
        ends = {state: (("x",),) for state in range(16)}
        one = Program("ab", 16, ["x"], {}, steps, ends)
        other = Program("ab", 16, ["x"], {}, steps, {**ends, 14: ()})
        self.assertEqual(judge_lengths(one, other), Uneven(word))

    def test_many_nodes(self):
        found = judge_lengths(echo("ab", 300), echo("ab", 7))
        self.assertEqual(len(found.heights), 2100)
        self.assertTrue(found.shows(echo("ab", 300), echo("ab", 7)))

    def test_asked_again(self):
        for one, other in list(some_pairs())[::17]:
            self.assertEqual(judge_lengths(one, other), judge_lengths(one, other))


class EvenShown(unittest.TestCase):
    def setUp(self):
        steps = {(0, "a"): (1, {"x": (("x",), "a")}), (1, "a"): (0, {})}
        self.one = Program("a", 2, ["x", "z"], {"z": "aa"}, steps, {0: (("x",),)})
        self.other = Program("a", 2, ["x", "z"], {"z": "b"}, steps, {0: (("x",),)})
        self.good = {(0, ("x",), 0, ("x",)): 0, (1, ("x",), 1, ("x",)): 0}

    def shown(self, heights):
        return Even(heights).shows(self.one, self.other)

    def test_as_told(self):
        self.assertTrue(self.shown(self.good))
        self.assertEqual(judge_lengths(self.one, self.other).heights, self.good)

    def test_heights_that_are_wrong(self):
        for node in self.good:
            for height in (1, -1, 10 ** 50, -10 ** 50):
                self.assertFalse(self.shown({**self.good, node: height}))
        self.assertFalse(self.shown({node: 1 for node in self.good}))

    def test_nodes_that_are_missing(self):
        for node in self.good:
            self.assertFalse(self.shown({told: self.good[told] for told in self.good if told != node}))
        self.assertFalse(self.shown({}))

    def test_more_nodes_have_to_be_closed(self):
        more = {**self.good, (0, (), 0, ()): 0}
        self.assertFalse(self.shown(more))
        self.assertTrue(self.shown({**more, (1, (), 1, ()): 0}))
        self.assertFalse(self.shown({**more, (1, (), 1, ()): 1}))
        self.assertFalse(self.shown({**self.good, (0, (), 0, ()): 1, (1, (), 1, ()): 1}))

    def test_more_nodes_have_to_come_to_nothing_at_the_start(self):
        for live, height, shown in ((("z",), -1, True), (("z",), 0, False), (("z",), 1, False)):
            more = {(0, live, 0, live): height, (1, live, 1, live): height}
            self.assertEqual(self.shown({**self.good, **more}), shown)
        more = {(0, (), 0, ("z",)): 1, (1, (), 1, ("z",)): 1}
        self.assertTrue(self.shown({**self.good, **more}))
        more = {(0, ("x", "z"), 0, ("x",)): -2, (1, ("x", "z"), 1, ("x",)): -2}
        self.assertTrue(self.shown({**self.good, **more}))

    def test_states_that_no_text_leads_both_to(self):
        self.assertFalse(self.shown({**self.good, (0, ("x",), 1, ("x",)): 0}))
        self.assertFalse(self.shown({**self.good, (2, ("x",), 2, ("x",)): 0}))
        self.assertFalse(self.shown({**self.good, (-1, ("x",), -1, ("x",)): 0}))

    def test_what_is_no_node(self):
        for wrong in ((), (0,), (0, ("x",), 0), (0, ("x",), 0, ("x",), 0), 0, "x", None, (0, "x", 0, "x"),
                      (0, ("x", "x"), 0, ()), (0, ("y",), 0, ("y",)), (0, ("z", "x"), 0, ("x", "z")),
                      (0, ("",), 0, ()), (0, (), 0, ("X",)), (0, 0, 0, 0), ("0", (), "0", ()), (0, (0,), 0, (0,)),
                      (0, ("x" * 1000,), 0, ())):
            self.assertFalse(self.shown({**self.good, wrong: 0}), wrong)
            self.assertFalse(self.shown({wrong: 0}), wrong)

    def test_large_and_wrong(self):
        many = {(number, ("x",), number, ("x",)): number for number in range(50000)}
        self.assertFalse(self.shown({**many, **self.good}))
        self.assertFalse(self.shown({**self.good, **many}))

    def test_both_have_to_write_for_the_same_texts(self):
        every, some = echo("ab", 2), ending(echo("ab", 2), {0: (("x",),)})
        heights = judge_lengths(every, every).heights
        for one, other in ((every, some), (some, every)):
            self.assertFalse(Even(heights).shows(one, other))
            self.assertFalse(Even({}).shows(one, other))
        self.assertTrue(Even(heights).shows(some, some))

    def test_heights_of_others(self):
        heights = judge_lengths(mirrored(), twice_as_much()).heights
        self.assertFalse(Even(heights).shows(twice_as_much(), mirrored()))
        for node in ((0, ("x", "y"), 0, ("x", "y")), (0, ("z",), 0, ("z",)), (0, ("z",), 0, ("x", "y"))):
            self.assertFalse(Even({**heights, node: 0}).shows(mirrored(), twice_as_much()))
            self.assertFalse(Even({node: 0, **heights}).shows(mirrored(), twice_as_much()))
        self.assertFalse(Even(heights).shows(mirrored(), mirrored()))
        self.assertFalse(Even(heights).shows(echo(), echo()))

    def test_nothing_shows_uneven_programs(self):
        shown = 0
        for one, other in list(some_pairs())[::5]:
            found = judge_lengths(one, other)
            if not found:
                heights = judge_lengths(one, one).heights
                self.assertFalse(Even(heights).shows(one, other))
                self.assertFalse(Even({}).shows(one, other))
                shown += 1
        self.assertGreater(shown, 20)

    def test_changed_attributes(self):
        found = judge_lengths(self.one, self.other)
        found.heights[(1, ("x",), 1, ("x",))] = 2
        self.assertFalse(found.shows(self.one, self.other))
        found.heights = dict(self.good)
        self.assertTrue(found.shows(self.one, self.other))


class UnevenShown(unittest.TestCase):
    def test_any_such_text(self):
        one, other = waiting(3, (("x",),), (("x",),)), waiting(3, (("x",),), (("x",), "c"))
        for text in every_text("ab", 5):
            self.assertEqual(Uneven(text).shows(one, other), size(one(text)) != size(other(text)))

    def test_texts_that_are_none(self):
        one, other = echo(), waiting(1, (("x",),), (("x",), "c"))
        self.assertTrue(Uneven("ab").shows(one, other))
        for text in ("c", "abc", "A", " ", "a b", "\u00e9", "a" * 1000 + "c"):
            self.assertFalse(Uneven(text).shows(one, other))

    def test_unlike_texts_of_the_same_length(self):
        self.assertFalse(Uneven("ab").shows(mirrored(), twice_as_much()))

    def test_refused_texts(self):
        one, other = echo("ab", 2), ending(echo("ab", 2), {0: (("x",),)})
        self.assertEqual([Uneven(text).shows(one, other) for text in ("", "a", "ab", "aba")],
                         [False, True, False, True])

    def test_long_texts_and_registers_that_are_thrown_away(self):
        steps = {(0, "a"): (0, {"x": (("x",), ("x",)), "y": (("y",), "a")})}
        one = Program("a", 1, ["x", "y"], {"x": "a"}, steps, {0: (("y",),)})
        other = Program("a", 1, ["x", "y"], {"x": "a"}, steps, {0: (("y",), "a")})
        self.assertTrue(Uneven("a" * 20000).shows(one, other))
        self.assertFalse(Uneven("a" * 20000).shows(one, one))

    def test_changed_attributes(self):
        one, other = waiting(3, (("x",),), (("x",),)), waiting(3, (("x",),), (("x",), "c"))
        found = judge_lengths(one, other)
        found.text = "bab"
        self.assertFalse(found.shows(one, other))
        found.text = "bbaaa"
        self.assertTrue(found.shows(one, other))


class Evidence(unittest.TestCase):
    def test_bool(self):
        self.assertIs(bool(Even({})), True)
        self.assertIs(bool(Uneven("")), False)

    def test_equal(self):
        node, node_behind = (0, ("x",), 0, ()), (1, ("x",), 0, ())
        self.assertEqual(Even({node: 1, node_behind: 2}), Even({node_behind: 2, node: 1}))
        self.assertNotEqual(Even({node: 1}), Even({node: 2}))
        self.assertNotEqual(Even({node: 1}), Even({}))
        self.assertEqual(Uneven("a"), Uneven("a"))
        self.assertNotEqual(Uneven("a"), Uneven(""))
        self.assertNotEqual(Even({}), Uneven(""))
        self.assertNotEqual(Even({}), {})
        self.assertNotEqual(Uneven(""), "")

    def test_copied(self):
        heights = {(0, (), 0, ()): 0}
        found = Even(heights)
        heights[(1, (), 1, ())] = 1
        self.assertEqual(found.heights, {(0, (), 0, ()): 0})

    def test_returned_dicts_are_new(self):
        judge_lengths(echo(), echo()).heights.clear()
        self.assertEqual(judge_lengths(echo(), echo()).heights, {(0, ("x",), 0, ("x",)): 0})

    def test_asking_changes_nothing(self):
        one, other = mirrored(), twice_as_much()
        judge_lengths(one, other).shows(one, other)
        self.assertEqual([one, other], [mirrored(), twice_as_much()])


class Refused(unittest.TestCase):
    def test_which_error_comes_first(self):
        for asked in (judge_lengths, Even({}).shows, Uneven("a").shows):
            check_refusals(self, asked)

    def test_thrifty_programs_that_are_not_plain(self):
        self.assertTrue(judge_lengths(copying(), copying()))
        text = first_text(lambda told: size(copying()(told)) != len(told), "ab", 4)
        self.assertEqual(judge_lengths(copying(), echo()), Uneven(text))

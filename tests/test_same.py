"""Point [5]: whether two programs write the same for all texts."""

import unittest
from unittest import mock

from passtexts.alike import Differ, Even, Same, judge_lengths, judge_same, marks_differ, write_same
from passtexts.errors import TooLarge
from passtexts.marks import differences
from passtexts.programs import Program
from passtexts.rings import has_ring
from passtexts.thrifty import judge_thrifty
from passtexts.walks import comes_to_nothing
from tests.helpers import (COPY_MOVES, PLAIN_MOVES, Digits, check_refusals, copying, counted, echo, ending,
                           every_text, first_differing)


def renamed(program):
    """The program with its two registers in one another's place, which writes the same."""
    other = {"x": "y", "y": "x"}

    def row_of(row):
        return tuple(item if isinstance(item, str) else (other[item[0]],) for item in row)

    steps = {key: (step[0], {other[name]: row_of(step[1][name]) for name in "xy"})
             for key, step in program.steps.items()}
    return Program(program.letters, program.states, program.registers, {other[name]: program.firsts[name]
                   for name in "xy"}, steps, {state: row_of(row) for state, row in program.ends.items()})


def doubled(program):
    """The program with each state twice, which writes the same."""
    many = program.states
    steps = {(state + turn * many, letter): (step[0] + (1 - turn) * many, step[1])
             for (state, letter), step in program.steps.items() for turn in (0, 1)}
    ends = {state + turn * many: row for state, row in program.ends.items() for turn in (0, 1)}
    return Program(program.letters, many * 2, program.registers, program.firsts, steps, ends)


def shuffled(program, number):
    """The program with the items of some rows in another order, so that lengths are the same."""
    digits = Digits(number + 104729)

    def row_of(row):
        return row[::-1] if digits.take(3) == 0 else row

    steps = {key: (step[0], {name: row_of(step[1][name]) for name in "xy"}) for key, step in program.steps.items()}
    ends = {state: row_of(row) for state, row in program.ends.items()}
    return Program(program.letters, program.states, program.registers, program.firsts, steps, ends)


def some_pairs():
    for number in range(260):
        letters = "ab" if number % 3 else "a"
        moves = PLAIN_MOVES if number % 2 else PLAIN_MOVES + COPY_MOVES
        one = counted(number, letters, 1 + number % 3, moves)
        other = counted(number + 7919, letters, 1 + number % 2, moves)
        if judge_thrifty(one):
            for told in (other, renamed(one), doubled(one), shuffled(one, number), renamed(shuffled(one, number + 1))):
                if judge_thrifty(told):
                    yield one, told


def spun(word, turns):
    """Writes a word over and over, begun by its first letters, the rest of it put ahead or behind."""
    steps = {(0, "a"): (0, {"x": (("x",), word[turns:] + word[:turns])})}
    return Program("a", 1, ["x"], {"x": word[:turns]}, steps, {0: (("x",), word[turns:])})


def ringed(ahead, behind, end):
    """With b writes ahead of a register, with a behind it, and at the end something between two of them."""
    steps = {(0, "a"): (0, {"x": (("x",), ahead)}), (0, "b"): (0, {"y": (("y",), behind)})}
    return Program("ab", 1, ["x", "y"], {}, steps, {0: end})


class Judged(unittest.TestCase):
    def test_against_all_short_texts(self):
        kinds = {True: 0, False: 0}
        even = 0
        for one, other in some_pairs():
            found = judge_same(one, other)
            self.assertTrue(found.shows(one, other))
            self.assertIs(write_same(one, other), bool(found))
            kinds[bool(found)] += 1
            longest = 6 if one.letters == "ab" else 12
            text = first_differing(one, other, longest)
            if found:
                self.assertIsInstance(found, Same)
                self.assertEqual(found.heights, judge_lengths(one, other).heights)
                self.assertIsNone(text)
            else:
                self.assertIsInstance(found, Differ)
                self.assertTrue(text == found.text or text is None and len(found.text) > longest)
                even += bool(judge_lengths(one, other))
        self.assertGreater(min(kinds.values()), 200)
        self.assertGreater(even, 50)

    def test_signs_are_followed_rightly_without_reading_texts(self):
        kinds = {True: 0, False: 0}
        for one, other in some_pairs():
            if judge_lengths(one, other):
                differ = marks_differ(one, other)
                kinds[differ] += 1
                self.assertEqual(differ, not judge_same(one, other))
                if not differ:
                    self.assertIsNone(first_differing(one, other, 6 if one.letters == "ab" else 14))
        self.assertGreater(kinds[True], 50)
        self.assertGreater(kinds[False], 200)

    def test_the_same_in_unlike_ways(self):
        for number in range(40):
            one = counted(number, "ab", 2)
            for other in (renamed(one), doubled(one), doubled(doubled(renamed(one)))):
                self.assertTrue(judge_same(one, other))
                self.assertTrue(judge_same(other, one))

    def test_words_over_and_over(self):
        for word in ("ab", "aab", "abcab", "aaaa"):
            for turns in range(len(word)):
                for other in range(len(word)):
                    self.assertTrue(judge_same(spun(word, turns), spun(word, other)))
        found = judge_same(spun("aab", 1), spun("aba", 1))
        self.assertEqual(found, Differ(""))

    def test_signs_that_stand_ahead_of_one_another_by_any_number(self):
        end = (("x",), "c", ("y",))
        self.assertTrue(judge_same(ringed("c", "c", end), ringed("c", "c", (("y",), ("x",), "c"))))
        self.assertTrue(judge_same(ringed("c", "cc", end), ringed("c", "cc", (("y",), "c", ("x",)))))
        self.assertEqual(judge_same(ringed("c", "d", end), ringed("c", "d", (("x",), ("y",), "c"))), Differ("b"))
        self.assertTrue(judge_same(ringed("cd", "cd", (("x",), "cd", ("y",))),
                                   ringed("cd", "cd", (("y",), ("x",), "cd"))))
        self.assertEqual(judge_same(ringed("cd", "cd", (("x",), "c", ("y",))),
                                    ringed("cd", "cd", (("y",), "c", ("x",)))), Differ("a"))

    def test_sums_that_come_together_late(self):
        # x grows by 5 with a, y by 3 with b: the d stands in one place only where 3 a's go with 5 b's
        steps = {(0, "a"): (0, {"x": (("x",), "ccccc")}), (0, "b"): (1, {"y": (("y",), "ccc")}),
                 (1, "b"): (1, {"y": (("y",), "ccc")}), (1, "a"): (2, {}), (2, "a"): (2, {}), (2, "b"): (2, {})}
        for one_end, other_end, same in (((("x",), "d", ("y",)), (("y",), "d", ("x",)), False),
                                         ((("x",), "c", ("y",)), (("y",), "c", ("x",)), True)):
            one, other = (Program("ab", 3, ["x", "y"], {}, steps, {1: end}) for end in (one_end, other_end))
            self.assertEqual(bool(judge_same(one, other)), same)
            self.assertEqual(marks_differ(one, other), not same)
        self.assertEqual(judge_same(one, other), Same(judge_lengths(one, other).heights))

    def test_no_text_is_refused_by_one_alone(self):
        some = ending(echo("ab", 2), {0: (("x",),)})
        self.assertEqual(judge_same(echo("ab", 2), some), Differ("a"))
        self.assertTrue(judge_same(some, some))
        self.assertEqual(judge_same(ending(some, {}), some), Differ(""))
        self.assertEqual(judge_same(ending(some, {}), ending(echo(), {})), Same({}))
        self.assertEqual(judge_same(ending(some, {}), ending(some, {1: ("",)})), Differ("a"))

    def test_first_contents(self):
        steps = {(0, "a"): (0, {"x": (("x",), "b")})}
        one = Program("a", 1, ["x"], {"x": "b"}, steps, {0: (("x",),)})
        other = Program("a", 1, ["x"], {}, {(0, "a"): (0, {"x": ("b", ("x",))})}, {0: ("b", ("x",))})
        self.assertTrue(judge_same(one, other))
        unlike = Program("a", 1, ["x"], {"x": "c"}, steps, {0: (("x",),)})
        self.assertEqual(judge_same(one, unlike), Differ(""))
        self.assertTrue(judge_lengths(one, unlike))

    def test_the_first_text(self):
        word = "bbabbbabbbabab"
        steps = {(state, letter): (state + 1 if letter == word[state] else 15, {"x": (letter, ("x",))})
                 for state in range(14) for letter in "ab"}
        steps.update({(state, letter): (15, {"x": (("x",), letter)}) for state in (14, 15) for letter in "ab"})
        ends = {state: (("x",),) for state in range(16)}
        one = Program("ab", 16, ["x"], {}, steps, {**ends, 14: (("x",), "a")})
        other = Program("ab", 16, ["x"], {}, steps, {**ends, 14: (("x",), "b")})
        found = judge_same(one, other)
        self.assertEqual(found, Differ(word))
        self.assertTrue(judge_lengths(one, other))
        self.assertTrue(found.shows(one, other))

    def test_sixty_letters(self):
        steps = {(state, "a"): (min(state + 1, 60), {"x": (("x",), ("x",)), "y": (("y",), "a")}) for state in range(61)}
        ends = {state: (("y",),) for state in range(61)}
        one = Program("a", 61, ["x", "y"], {"x": "a"}, steps, {**ends, 60: (("y",), "b")})
        other = Program("a", 61, ["x", "y"], {"x": "a"}, steps, {**ends, 60: (("y",), "a")})
        self.assertEqual(judge_same(one, other), Differ("a" * 60))
        self.assertTrue(Differ("a" * 60).shows(one, other))
        self.assertTrue(judge_same(one, one))

    def test_lengths_differ_later_than_signs(self):
        steps = {(0, "a"): (1, {"x": (("x",), "a")}), (1, "a"): (2, {"x": (("x",), "a")}), (2, "a"): (2, {})}
        one = Program("a", 3, ["x"], {}, steps, {0: (("x",),), 1: ("b", ("x",)), 2: (("x",),)})
        other = Program("a", 3, ["x"], {}, steps, {0: (("x",),), 1: ("c", ("x",)), 2: ()})
        self.assertEqual(judge_same(one, other), Differ("a"))
        self.assertEqual(judge_lengths(one, other).text, "aa")

    def test_lengths_that_differ_late(self):
        steps = {(state, letter): (min(state + 1, 12) if letter == "a" or state == 12 else 0, {"x": (("x",), letter)})
                 for state in range(13) for letter in "ab"}
        ends = {state: (("x",),) for state in range(13)}
        one = Program("ab", 13, ["x"], {}, steps, ends)
        other = Program("ab", 13, ["x"], {}, steps, {**ends, 12: (("x",), "a")})
        self.assertFalse(marks_differ(one, other))
        self.assertEqual(judge_same(one, other), Differ("a" * 12))
        refusing = ending(one, {state: (("x",),) for state in range(12)})
        self.assertEqual(judge_same(refusing, one), Differ("a" * 12))

    def test_signs_of_first_contents(self):
        def program(first, other_first, between, behind):
            steps = {(0, "a"): (0, {"x": (("x",), "c")}), (0, "b"): (0, {"y": ("c", ("y",))})}
            return Program("ab", 1, ["x", "y"], {"x": first, "y": other_first}, steps,
                           {0: (("x",), between, ("y",), behind)})

        one = program("cab", "bac", "cc", "")
        for other, same in ((program("cab", "bac", "cc", ""), True), (program("cab", "bacc", "c", ""), False),
                            (program("cab", "cbac", "c", ""), True), (program("cab", "ccbac", "", ""), True),
                            (program("cabc", "bac", "c", ""), True), (program("cabcc", "bac", "", ""), True),
                            (program("cba", "bac", "cc", ""), False), (program("cab", "abc", "cc", ""), False),
                            (program("cab", "ba", "cc", "c"), True), (program("ca", "cbac", "bc", ""), False),
                            (program("aab", "bac", "cc", ""), False), (program("cab", "baa", "cc", ""), False)):
            self.assertTrue(judge_lengths(one, other))
            self.assertEqual(marks_differ(one, other), not same)
            self.assertEqual(bool(judge_same(one, other)), same)
            self.assertEqual(first_differing(one, other, 5) is None, same)

    def test_long_texts_in_rows(self):
        def program(ahead, behind):
            return Program("a", 1, ["x"], {}, {(0, "a"): (0, {"x": (ahead, ("x",), behind)})}, {0: (("x",),)})

        self.assertTrue(judge_same(program("ab" * 500, ""), program("", "ab" * 500)))
        self.assertTrue(judge_same(program("ab" * 500, ""), program("ab" * 200, "ab" * 300)))
        self.assertEqual(judge_same(program("ab" * 500, ""), program("ab" * 499 + "a", "b")), Differ("aa"))
        self.assertEqual(judge_same(program("ab" * 500, "b"), program("ab" * 500, "a")), Differ("a"))

    def test_many_states_and_registers(self):
        self.assertTrue(judge_same(echo("ab", 300), echo("ab", 7)))
        names = [first + second for first in "abcdef" for second in "abcde"]
        steps = {(0, letter): (0, {name: ((name,), letter) for name in names if name < "c" or letter == "a"})
                 for letter in "ab"}
        one = Program("ab", 1, names, {}, steps, {0: tuple((name,) for name in names)})
        self.assertTrue(judge_same(one, one))
        turned = Program("ab", 1, names, {}, steps, {0: tuple((name,) for name in names[::-1])})
        found = judge_same(one, turned)
        self.assertTrue(found.shows(one, turned))
        self.assertEqual(found.text, first_differing(one, turned, 4))

    def test_copies_that_are_thrown_away(self):
        self.assertTrue(judge_same(copying(), copying()))
        self.assertEqual(judge_same(copying(), echo()).text, first_differing(copying(), echo(), 4))

    def test_asked_again(self):
        for one, other in list(some_pairs())[::23]:
            self.assertEqual(judge_same(one, other), judge_same(one, other))


class Sums(unittest.TestCase):
    def test_walks_against_trying_all(self):
        kinds = {True: 0, False: 0}
        for number in range(3000):
            digits = Digits(number)
            edges = [[] for _ in range(6)]
            for _ in range(4 + digits.take(7)):
                node, following = 1 + digits.take(5), (0, 2, 3, 4, 5)[digits.take(5)]
                edges[node].append((following, digits.take(9) - 4))
            found = comes_to_nothing([sorted(set(told)) for told in edges], 1, 0)
            kinds[found] += 1
            self.assertEqual(found, tried(edges, 150), edges)
        self.assertGreater(min(kinds.values()), 250)

    def test_rings_of_one_kind_and_of_both(self):
        for ring, other_ring, last, found in ((3, 0, -6, True), (3, 0, -7, False), (3, 0, 3, False), (-3, 0, 6, True),
                                              (-3, 0, -3, False), (6, -4, 2, True), (6, -4, 3, False),
                                              (6, -9, 3, True), (6, -9, -3, True), (6, -9, 1, False), (0, 0, 0, True),
                                              (1000, -999, 1, True), (1000, -998, 1, False)):
            edges = [[], [(2, 0)], [(2, ring), (3, 0)], [(3, other_ring), (0, last)]]
            self.assertEqual(comes_to_nothing(edges, 1, 0), found, (ring, other_ring, last))

    def test_rings_that_do_not_lead_to_the_goal(self):
        self.assertFalse(comes_to_nothing([[], [(2, 1), (0, 1)], [(2, -1)]], 1, 0))
        self.assertFalse(comes_to_nothing([[], [(0, 1)], [(2, -1), (0, 0)]], 1, 0))
        self.assertTrue(comes_to_nothing([[], [(2, 1), (0, 1)], [(2, -1), (0, 0)]], 1, 0))
        self.assertFalse(comes_to_nothing([[], []], 1, 0))

    def test_large_rings(self):
        many = 3000
        for steps, last, found in ((1, -many * 4, True), (1, 1 - many * 4, False), (-1, many * 4, True)):
            edges = [[], [(2, 0)]] + [[(node + 1, steps)] for node in range(2, many + 2)]
            edges[many + 1] = [(2, steps), (0, last + steps)]
            self.assertEqual(comes_to_nothing(edges, 1, 0), found)

    def test_differences(self):
        for one in ([0], [3, 4, 9], list(range(5, 40, 3)), [1, 100]):
            for other in ([0], [7], [2, 5, 6], list(range(0, 60, 7))):
                self.assertEqual(sorted(differences(one, other)),
                                 sorted({many - told for many in one for told in other}))


def tried(edges, most):
    """Whether a walk from node 1 to node 0 has the sum 0, by going along all with sums that are not too far away."""
    seen = {(1, 0)}
    waiting = [(1, 0)]
    while waiting:
        node, total = waiting.pop()
        for following, many in edges[node]:
            place = (following, total + many)
            if abs(place[1]) <= most and place not in seen:
                seen.add(place)
                waiting.append(place)
    return (0, 0) in seen


class Limits(unittest.TestCase):
    def test_too_many_nodes(self):
        with mock.patch("passtexts.marks.MOST_NODES", 12):
            with self.assertRaises(TooLarge):
                judge_same(echo("ab", 9), echo("ab", 9))
            self.assertTrue(judge_same(echo(), echo()))

    def test_too_many_sums(self):
        one = ringed("cd", "cd", (("x",), "cd", ("y",)))
        with mock.patch("passtexts.walks.MOST_MET", 3):
            with self.assertRaises(TooLarge):
                judge_same(one, one)
        self.assertTrue(judge_same(one, one))

    def test_rings_of_single_steps(self):
        for came, found in (({}, False), ({1: 2, 2: 3}, False), ({1: 2, 2: 3, 3: 1}, True), ({1: 2, 2: 2}, True),
                            ({4: 1, 1: 2, 2: 1}, True), ({4: 1, 1: 2, 5: 1, 2: 6}, False)):
            self.assertEqual(has_ring(came), found)


class Shown(unittest.TestCase):
    def test_same_needs_right_heights(self):
        found = judge_same(echo("ab", 2), echo("ab", 3))
        self.assertEqual(len(found.heights), 6)
        for node in list(found.heights):
            wrong = dict(found.heights)
            wrong[node] += 1
            self.assertFalse(Same(wrong).shows(echo("ab", 2), echo("ab", 3)))
            del wrong[node]
            self.assertFalse(Same(wrong).shows(echo("ab", 2), echo("ab", 3)))
        more = {**found.heights, (0, ("y",), 0, ("x",)): 0}
        self.assertFalse(Same(more).shows(echo("ab", 2), echo("ab", 3)))
        self.assertFalse(Same({}).shows(echo("ab", 2), echo("ab", 3)))
        self.assertFalse(Same({(number, ("x",), number, ("x",)): 0 for number in range(50000)}).shows(echo(), echo()))

    def test_same_decides_anew(self):
        shown = 0
        for one, other in some_pairs():
            even = judge_lengths(one, other)
            if even and not judge_same(one, other):
                self.assertTrue(even.shows(one, other))
                self.assertFalse(Same(even.heights).shows(one, other))
                shown += 1
        self.assertGreater(shown, 50)

    def test_same_takes_more_nodes_that_are_closed(self):
        program = Program("a", 1, ["x", "y"], {}, {(0, "a"): (0, {"x": (("x",), "a")})}, {0: (("x",),)})
        found = judge_same(program, program)
        found.heights[(0, ("y",), 0, ())] = 0
        self.assertTrue(found.shows(program, program))
        found.heights[(0, ("y",), 0, ())] = 1
        self.assertFalse(found.shows(program, program))

    def test_differ_takes_any_text(self):
        for one, other in list(some_pairs())[::29]:
            for text in every_text(one.letters, 4):
                self.assertEqual(Differ(text).shows(one, other), one(text) != other(text))

    def test_differ_with_what_is_no_text_of_the_letters(self):
        other = ending(echo(), {0: (("x",), "a")})
        self.assertTrue(Differ("ab").shows(echo(), other))
        for text in ("c", "abc", "A", " ", "a b", "\u00e9", "a" * 1000 + "c", "a\n"):
            self.assertFalse(Differ(text).shows(echo(), other))

    def test_long_texts(self):
        steps = {(0, "a"): (0, {"x": (("x",), ("x",)), "y": (("y",), "a")})}
        one = Program("a", 1, ["x", "y"], {"x": "a"}, steps, {0: (("y",), "b")})
        other = Program("a", 1, ["x", "y"], {"x": "a"}, steps, {0: ("b", ("y",))})
        self.assertTrue(Differ("a" * 20000).shows(one, other))
        self.assertFalse(Differ("").shows(one, other))
        self.assertFalse(Differ("a" * 20000).shows(one, one))

    def test_changed_attributes(self):
        other = ending(echo(), {0: (("x",), "a")})
        found = judge_same(echo(), other)
        found.text = "bab"
        self.assertTrue(found.shows(echo(), other))
        found.text = "abc"
        self.assertFalse(found.shows(echo(), other))
        found = judge_same(echo(), echo())
        found.heights = {}
        self.assertFalse(found.shows(echo(), echo()))


class Evidence(unittest.TestCase):
    def test_bool(self):
        self.assertIs(bool(Same({})), True)
        self.assertIs(bool(Differ("")), False)
        self.assertIs(write_same(echo(), echo()), True)
        self.assertIs(write_same(echo(), copying()), False)

    def test_equal(self):
        node = (0, ("x",), 0, ())
        self.assertEqual(Same({node: 1}), Same({node: 1}))
        self.assertNotEqual(Same({node: 1}), Same({node: 2}))
        self.assertNotEqual(Same({node: 1}), Even({node: 1}))
        self.assertNotEqual(Even({node: 1}), Same({node: 1}))
        self.assertEqual(Differ("a"), Differ("a"))
        self.assertNotEqual(Differ("a"), Differ("b"))
        self.assertNotEqual(Differ(""), Same({}))
        self.assertNotEqual(Differ("a"), "a")

    def test_copied_and_new(self):
        heights = {(0, (), 0, ()): 0}
        found = Same(heights)
        heights.clear()
        self.assertEqual(found.heights, {(0, (), 0, ()): 0})
        judge_same(echo(), echo()).heights.clear()
        self.assertEqual(judge_same(echo(), echo()).heights, {(0, ("x",), 0, ("x",)): 0})

    def test_asking_changes_nothing(self):
        one, other = copying(), echo()
        judge_same(one, other).shows(one, other)
        judge_same(one, one).shows(one, one)
        self.assertEqual([one, other], [copying(), echo()])


class Refused(unittest.TestCase):
    def test_which_error_comes_first(self):
        for asked in (judge_same, write_same, Same({}).shows, Differ("a").shows):
            check_refusals(self, asked)

"""Point [10], the first part: by how many signs what one program writes is longer."""

import unittest

from passtexts.beginnings import Endless, Most, judge_longer
from passtexts.programs import Program
from tests.helpers import check_refusals, copying, echo, ending, every_text, size
from tests.programs_made import thrifty_pairs


def lengths(program, text):
    return size(program(text))


def more(one, other, text):
    """By how many signs what the first program writes is longer, None if one of them writes nothing."""
    told = (lengths(one, text), lengths(other, text))
    return None if None in told else told[0] - told[1]


def counting(kinds, end=(("x",),)):
    """Writes so many signs for each letter a, by the state, which goes around with each letter."""
    many = len(kinds)
    steps = {(state, "a"): ((state + 1) % many, {"x": (("x",), "c" * kinds[state])}) for state in range(many)}
    return Program("a", many, ["x"], {}, steps, {state: end for state in range(many)})


def by_letters(signs, firsts="", end=""):
    """Writes so many signs for each letter, by the letter."""
    steps = {(0, letter): (0, {"x": (("x",), "c" * many)}) for letter, many in signs.items()}
    return Program("".join(signs), 1, ["x"], {"x": firsts}, steps, {0: (("x",), end)})


class Judged(unittest.TestCase):
    def test_against_all_short_texts(self):
        kinds = {Most: 0, Endless: 0, type(None): 0}
        for one, other in thrifty_pairs(180):
            found = judge_longer(one, other)
            kinds[type(found)] += 1
            texts = list(every_text(one.letters, 5 if one.letters == "ab" else 9))
            told = [number for number in [more(one, other, text) for text in texts] if number is not None]
            if found is None:
                self.assertEqual(told, [])
                continue
            self.assertTrue(found.shows(one, other))
            if found:
                self.assertEqual(more(one, other, found.text), found.number)
                self.assertLessEqual(max(told, default=found.number), found.number)
                if found.text in texts:
                    self.assertEqual(max(told), found.number)
            else:
                numbers = [more(one, other, found.ahead + found.ring * turns + found.behind) for turns in range(4)]
                self.assertGreater(numbers[1], numbers[0])
                self.assertEqual(numbers[3] - numbers[2], numbers[1] - numbers[0])
                self.assertEqual(numbers[2] - numbers[1], numbers[1] - numbers[0])
        self.assertGreater(min(kinds.values()), 40)

    def test_greatest_numbers(self):
        self.assertEqual(judge_longer(by_letters({"a": 2, "b": 1}), by_letters({"a": 2, "b": 3})),
                         Most(0, "", {(0, ("x",), 0, ("x",)): 0}))
        found = judge_longer(by_letters({"a": 1}, "cc", "c"), by_letters({"a": 1}, "c", "cccccc"))
        self.assertEqual(found, Most(-4, "", {(0, ("x",), 0, ("x",)): -5}))
        found = judge_longer(counting([0, 3, 1, 0]), counting([1, 1, 1, 1]))
        self.assertEqual((found.number, found.text), (1, "aa"))
        self.assertTrue(found.shows(counting([0, 3, 1, 0]), counting([1, 1, 1, 1])))
        found = judge_longer(counting([1, 1, 1, 1]), counting([0, 3, 1, 0]))
        self.assertEqual((found.number, found.text), (1, "a"))

    def test_no_greatest_number(self):
        one, other = by_letters({"a": 2, "b": 1}), by_letters({"a": 1, "b": 3})
        found = judge_longer(one, other)
        self.assertIsInstance(found, Endless)
        self.assertEqual(set(found.ring), {"a"})
        self.assertIsInstance(judge_longer(other, one), Endless)
        self.assertIsInstance(judge_longer(counting([0, 3, 1]), counting([1, 1, 1])), Endless)
        self.assertIsInstance(judge_longer(counting([0, 3, 0]), counting([1, 1, 1])), Most)
        found = judge_longer(counting([1] * 7), counting([1, 1, 1, 1, 0]))
        self.assertIsInstance(found, Endless)
        self.assertEqual(len(found.ring) % 35, 0)

    def test_rings_that_do_not_come_to_an_end_do_not_count(self):
        steps = {(0, "a"): (0, {"x": (("x",), "ccc")}), (0, "b"): (1, {}), (1, "a"): (1, {}), (1, "b"): (1, {})}
        one = Program("ab", 2, ["x"], {}, steps, {1: ("c",)})
        self.assertEqual(judge_longer(one, by_letters({"a": 0, "b": 0})).number, 1)
        self.assertEqual(judge_longer(by_letters({"a": 0, "b": 0}), one).number, -1)
        one = Program("ab", 2, ["x"], {}, steps, {1: (("x",),)})
        self.assertIsInstance(judge_longer(one, by_letters({"a": 0, "b": 0})), Endless)
        self.assertIsNone(judge_longer(ending(one, {}), by_letters({"a": 0, "b": 0})))

    def test_texts_for_which_both_write(self):
        even, odd = ending(echo("ab", 2), {0: (("x",),)}), ending(echo("ab", 2), {1: (("x",),)})
        self.assertIsNone(judge_longer(even, odd))
        self.assertIsNone(judge_longer(even, ending(echo(), {})))
        self.assertEqual(judge_longer(even, echo()).number, 0)
        third = ending(by_letters({"a": 1, "b": 1}), {0: (("x",), "c")})
        self.assertEqual(judge_longer(third, odd).number, 1)
        self.assertEqual(judge_longer(third, odd).heights, {(0, ("x",), 0, ("x",)): 1, (0, ("x",), 1, ("x",)): 1})

    def test_registers_that_are_live_behind_some_texts_alone(self):
        steps = {(0, "a"): (0, {"x": (("x",), "c"), "y": (("y",), "cc")}), (0, "b"): (1, {"x": (("y",),), "y": ()}),
                 (1, "a"): (1, {}), (1, "b"): (1, {})}
        one = Program("ab", 2, ["x", "y"], {}, steps, {0: (("x",),), 1: (("x",),)})
        self.assertEqual(judge_longer(one, by_letters({"a": 2, "b": 1})).number, 0)
        self.assertIsInstance(judge_longer(one, by_letters({"a": 1, "b": 1})), Endless)
        self.assertEqual(judge_longer(one, by_letters({"a": 2, "b": 0})).number, 0)
        found = judge_longer(one, by_letters({"a": 3, "b": 0}, "", "c"))
        self.assertEqual(found.number, -1)

    def test_first_contents_of_live_registers_alone(self):
        steps = {(0, "a"): (1, {"x": ()}), (1, "a"): (1, {})}
        one = Program("a", 2, ["x", "y"], {"x": "ccccc", "y": "c"}, steps, {0: (("y",),), 1: (("x",), ("y",))})
        heights = {(0, ("y",), 0, ("x",)): 0, (1, ("x", "y"), 0, ("x",)): 0}
        self.assertEqual(judge_longer(one, by_letters({"a": 0})), Most(1, "", heights))

    def test_many_nodes(self):
        one, other = counting([index % 5 for index in range(101)]), counting([2] * 99)
        found = judge_longer(one, other)
        self.assertIsInstance(found, Most)
        self.assertEqual(len(found.heights), 9999)
        self.assertTrue(found.shows(one, other))
        found = judge_longer(other, one)
        self.assertIsInstance(found, Endless)
        self.assertTrue(found.shows(other, one))

    def test_texts_with_very_many_signs(self):
        one, other = by_letters({"a": 5000}, "c" * 7000), by_letters({"a": 5000}, "", "c" * 50)
        self.assertEqual(judge_longer(one, other).number, 6950)
        self.assertEqual(judge_longer(other, one).number, -6950)

    def test_asked_again(self):
        for one, other in list(thrifty_pairs(60))[::7]:
            self.assertEqual(judge_longer(one, other), judge_longer(one, other))


class MostShown(unittest.TestCase):
    def setUp(self):
        self.one, self.other = counting([0, 3, 1, 0]), counting([1, 1, 1, 1])
        self.found = judge_longer(self.one, self.other)

    def shown(self, number=None, text=None, heights=None):
        found = self.found
        told = Most(found.number if number is None else number, found.text if text is None else text,
                    found.heights if heights is None else heights)
        return told.shows(self.one, self.other)

    def test_numbers(self):
        self.assertTrue(self.shown())
        for number in (-10 ** 30, -1, 0, 2, 3, 10 ** 30):
            self.assertFalse(self.shown(number=number))

    def test_texts(self):
        for text in every_text("a", 9):
            self.assertEqual(self.shown(text=text), more(self.one, self.other, text) == self.found.number)
        self.assertTrue(self.shown(text="a" * 4002))
        for text in ("b", "aab", "A", "", "a\n", " aa", "\u00e9"):
            self.assertFalse(self.shown(text=text))

    def test_numbers_reached_that_are_not_the_greatest(self):
        self.assertFalse(self.shown(number=0, text=""))
        self.assertFalse(self.shown(number=0, text="", heights={node: 0 for node in self.found.heights}))
        self.assertFalse(self.shown(number=-1, text="a"))

    def test_heights_that_are_too_low(self):
        for node in self.found.heights:
            for less in (1, 2, 10 ** 40):
                self.assertFalse(self.shown(heights={**self.found.heights, node: self.found.heights[node] - less}))

    def test_heights_may_be_higher_where_the_start_is_not(self):
        steps = {(0, "a"): (1, {}), (1, "a"): (1, {})}
        one = Program("a", 2, ["x"], {}, steps, {0: ("cccc",), 1: ("c",)})
        found = judge_longer(one, counting([0]))
        self.assertEqual(found.heights, {(0, (), 0, ("x",)): 4, (1, (), 0, ("x",)): 1})
        for height, shown in ((0, False), (1, True), (2, True), (4, True), (5, False), (10 ** 30, False)):
            found.heights[(1, (), 0, ("x",))] = height
            self.assertEqual(found.shows(one, counting([0])), shown)

    def test_heights_that_are_all_higher(self):
        self.assertFalse(self.shown(heights={node: height + 1 for node, height in self.found.heights.items()}))
        first = (0, ("x",), 0, ("x",))
        self.assertFalse(self.shown(heights={**self.found.heights, first: self.found.heights[first] + 1}))

    def test_nodes_that_are_missing_or_others(self):
        for node in self.found.heights:
            self.assertFalse(self.shown(heights={told: height for told, height in self.found.heights.items()
                                                 if told != node}))
        self.assertFalse(self.shown(heights={}))
        for wrong in ((), (0,), "x", None, 0, (0, "x", 0, "x"), (9, ("x",), 0, ("x",)), (0, ("y",), 0, ("x",)),
                      (0, (), 0, ()), (0, ("x", "x"), 0, ("x",)), (1, ("x",), 0, ("x",))):
            self.assertFalse(self.shown(heights={**self.found.heights, wrong: 10 ** 9}))
        many = {(number, ("x",), number, ("x",)): 0 for number in range(20000)}
        self.assertFalse(self.shown(heights=many))
        self.assertFalse(self.shown(heights={**many, **self.found.heights}))

    def test_where_one_refuses(self):
        even = ending(echo("ab", 2), {0: (("x",),)})
        found = judge_longer(even, echo())
        self.assertTrue(Most(0, "ab", found.heights).shows(even, echo()))
        self.assertFalse(Most(0, "a", found.heights).shows(even, echo()))
        none = ending(echo(), {})
        self.assertFalse(Most(0, "", {}).shows(none, echo()))
        self.assertFalse(Most(0, "", found.heights).shows(none, echo()))

    def test_no_heights_show_what_is_endless(self):
        for one, other in thrifty_pairs(60):
            if isinstance(judge_longer(one, other), Endless):
                for height in (0, 10 ** 20):
                    told = judge_longer(one, one).heights
                    self.assertFalse(Most(0, "", {node: height for node in told}).shows(one, other))

    def test_changed_attributes(self):
        self.found.number = 2
        self.assertFalse(self.found.shows(self.one, self.other))
        self.found.number, self.found.text = 1, "aaa"
        self.assertTrue(self.found.shows(self.one, self.other))
        self.found.heights = {}
        self.assertFalse(self.found.shows(self.one, self.other))


class EndlessShown(unittest.TestCase):
    def setUp(self):
        steps = {(0, "a"): (0, {"x": (("x",), "c"), "y": (("y",), "cc")}), (0, "b"): (1, {"x": (("y",),), "y": ()}),
                 (1, "a"): (1, {}), (1, "b"): (2, {}), (2, "a"): (2, {}), (2, "b"): (2, {})}
        self.one = Program("ab", 3, ["x", "y"], {}, steps, {0: (("x",),), 1: (("x",),)})
        self.other = ending(echo("ab", 1), {0: (("x",),)})

    def shown(self, ahead, ring, behind):
        return Endless(ahead, ring, behind).shows(self.one, self.other)

    def test_rings(self):
        for ring, shown in (("a", True), ("aa", True), ("", False), ("b", False), ("ab", False), ("a" * 500, True)):
            self.assertEqual(self.shown("", ring, "b"), shown)
            self.assertEqual(self.shown("aaa", ring, "ba"), shown)

    def test_what_comes_behind(self):
        for behind, shown in (("b", True), ("ba", True), ("", False), ("a", False), ("bb", False), ("bab", False)):
            self.assertEqual(self.shown("", "a", behind), shown)
        for ring in ("a", "aa"):
            self.assertFalse(self.shown("b", ring, ""))

    def test_it_has_to_become_longer(self):
        self.assertFalse(Endless("", "a", "b").shows(self.other, self.one))
        self.assertFalse(Endless("", "a", "").shows(self.other, self.other))
        self.assertTrue(Endless("", "b", "").shows(echo(), by_letters({"a": 1, "b": 0})))
        self.assertFalse(Endless("", "a", "").shows(echo(), by_letters({"a": 1, "b": 0})))

    def test_states_of_both_have_to_be_the_same(self):
        one, other = counting([2, 2]), counting([1, 1, 1])
        for turns in range(14):
            self.assertEqual(Endless("a", "a" * turns, "a").shows(one, other), turns in (6, 12))

    def test_the_same_registers_have_to_be_live(self):
        steps = {(0, "a"): (0, {"x": (("y",), "cc"), "y": (("x",),)}), (0, "b"): (0, {"x": (), "y": ()})}
        one = Program("ab", 1, ["x", "y"], {}, steps, {0: (("x",),)})
        for ring, shown in (("a", False), ("aa", True), ("aaa", False), ("aaaa", True), ("ba", False), ("aba", False)):
            self.assertEqual(Endless("", ring, "").shows(one, by_letters({"a": 0, "b": 0})), shown, ring)

    def test_both_have_to_write(self):
        one, other = ending(counting([1, 1]), {0: (("x",),)}), ending(counting([0, 0]), {0: (("x",),)})
        self.assertTrue(Endless("", "aa", "").shows(one, other))
        self.assertFalse(Endless("a", "aa", "").shows(one, other))
        self.assertTrue(Endless("a", "aa", "a").shows(one, other))
        self.assertFalse(Endless("", "aa", "").shows(one, ending(other, {1: (("x",),)})))

    def test_texts_that_are_none(self):
        self.assertTrue(self.shown("a", "a", "b"))
        for wrong in ("c", "ac", "A", " ", "\n", "\u00e9", "a" * 1000 + "!"):
            self.assertFalse(self.shown(wrong, "a", "b"))
            self.assertFalse(self.shown("a", wrong, "b"))
            self.assertFalse(self.shown("a", "a", wrong))

    def test_long_texts(self):
        self.assertTrue(self.shown("a" * 10000, "a" * 10000, "b" + "a" * 10000))
        self.assertFalse(self.shown("a" * 10000, "a" * 10000 + "b", "a" * 10000))

    def test_changed_attributes(self):
        found = judge_longer(self.one, self.other)
        self.assertTrue(found.shows(self.one, self.other))
        found.ring = ""
        self.assertFalse(found.shows(self.one, self.other))
        found.ahead, found.ring, found.behind = "aa", "a", "b"
        self.assertTrue(found.shows(self.one, self.other))


class Evidence(unittest.TestCase):
    def test_bool(self):
        self.assertIs(bool(Most(0, "", {})), True)
        self.assertIs(bool(Endless("", "a", "")), False)

    def test_equal(self):
        node = (0, (), 0, ())
        self.assertEqual(Most(1, "a", {node: 1}), Most(1, "a", {node: 1}))
        for other in (Most(2, "a", {node: 1}), Most(1, "", {node: 1}), Most(1, "a", {node: 2}), Most(1, "a", {}),
                      Endless("", "a", ""), None, 1, {node: 1}):
            self.assertNotEqual(Most(1, "a", {node: 1}), other)
        self.assertEqual(Endless("", "a", "b"), Endless("", "a", "b"))
        for other in (Endless("a", "a", "b"), Endless("", "", "b"), Endless("", "a", ""), Most(1, "a", {}), "a"):
            self.assertNotEqual(Endless("", "a", "b"), other)

    def test_copied_and_new(self):
        heights = {(0, (), 0, ()): 0}
        found = Most(0, "", heights)
        heights.clear()
        self.assertEqual(found.heights, {(0, (), 0, ()): 0})
        judge_longer(echo(), echo()).heights.clear()
        self.assertEqual(judge_longer(echo(), echo()).heights, {(0, ("x",), 0, ("x",)): 0})

    def test_asking_changes_nothing(self):
        one, other = copying(), echo()
        judge_longer(one, other).shows(one, other)
        self.assertEqual([one, other], [copying(), echo()])


class Refused(unittest.TestCase):
    def test_which_error_comes_first(self):
        for asked in (judge_longer, Most(0, "", {}).shows, Endless("", "a", "").shows, Most(0, "!", {}).shows):
            check_refusals(self, asked)

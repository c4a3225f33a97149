"""Points [5] and [6] for small programs that are asked often: what they answer, however it is found out."""

import unittest
from unittest import mock

from passtexts.alike import Differ, Same, judge_same
from passtexts.behind import behind, judge_again, judge_commute, judge_undoes
from passtexts.errors import TooLarge
from passtexts.programs import Program
from tests.helpers import PLAIN_MOVES, counted, echo, first_differing
from tests.test_same import doubled, renamed, shuffled


def made(states, steps, ends):
    return Program("ab", states, ["x", "y"], {}, steps, ends)


TURNED = made(1, {(0, c): (0, {"y": (c, ("y",))}) for c in "ab"}, {0: (("y",),)})
AHEAD = made(1, {(0, c): (0, {"x": (("x",), ("y",)), "y": (c,)}) for c in "ab"}, {0: (("y",), ("x",))})
BACK = made(2, {**{(0, c): (1, {"y": (c,)}) for c in "ab"}, **{(1, c): (1, {"x": (("x",), c)}) for c in "ab"}},
            {0: (), 1: (("x",), ("y",))})
ORDER = made(1, {(0, "a"): (0, {"x": (("x",), "a")}), (0, "b"): (0, {"y": (("y",), "b")})}, {0: (("x",), ("y",))})
DOUBLE = made(1, {(0, c): (0, {"x": (("x",), c, c)}) for c in "ab"}, {0: (("x",),)})
TWICE = made(1, {(0, c): (0, {"x": (("x",), c), "y": (("y",), c)}) for c in "ab"}, {0: (("x",), ("y",))})


def waiting(many, end):
    """Writes the text; behind so many letters b, and no other letter, it writes a row instead."""
    steps = {(state, "b"): (min(state + 1, many + 1), {"x": (("x",), "b")}) for state in range(many + 2)}
    steps.update({(state, "a"): (many + 1, {"x": (("x",), "a")}) for state in range(many + 2)})
    ends = {state: (("x",),) for state in range(many + 2)}
    return Program("ab", many + 2, ["x"], {}, steps, {**ends, many: end})


class Answers(unittest.TestCase):
    def test_calls_that_are_asked_often(self):
        x, none = (0, ("x",)), (0, ())
        one, two = ("c", "d"), ("c", "d", "g")
        for found, heights in (
                (judge_undoes(AHEAD, BACK), [(0, ()) + x, (0, ("f", "n")) + x, (1, ("f", "k")) + x, (1, ("f", "n")) + x,
                                             (2, ("f", "k")) + x, (2, ("f", "n")) + x]),
                (judge_undoes(BACK, AHEAD), [(0, ()) + x, (0, one) + x, (0, ("d",)) + x, (1, two, 1, ("x",)),
                                             (1, ("d", "g"), 1, ("x",)), (2, two, 1, ("x",))]),
                (judge_same(behind(AHEAD, ORDER), ORDER), [(0, ("b", "d", "f", "h"), 0, ("x", "y"))]),
                (judge_same(behind(behind(TURNED, AHEAD), TURNED), BACK),
                 [(0, ("a", "c")) + none, (0, ("a", "c")) + x, (1, ("a", "c"), 1, ("x", "y"))]),
                (judge_commute(TURNED, TWICE), [(0, ("b", "d"), 0, ("a", "c"))]),
                (judge_commute(ORDER, DOUBLE), [(0, ("b", "d"), 0, ("b", "d"))]),
                (judge_again(ORDER), [(0, ("b", "h"), 0, ("x", "y"))]),
                (judge_undoes(TURNED, TURNED), [(0, ("a",)) + x])):
            self.assertEqual(found, Same({node: 0 for node in heights}))

    def test_more_of_them(self):
        for found, text in ((judge_undoes(AHEAD, AHEAD), "aab"), (judge_again(AHEAD), "ab"), (judge_again(BACK), "ab"),
                            (judge_undoes(ORDER, ORDER), "ba"), (judge_commute(AHEAD, BACK), None),
                            (judge_commute(ORDER, TURNED), "ab"), (judge_again(DOUBLE), "a"),
                            (judge_commute(DOUBLE, TWICE), None), (judge_undoes(TWICE, TWICE), "a"),
                            (judge_same(behind(AHEAD, AHEAD), BACK), "ab"), (judge_commute(TURNED, AHEAD), "aab"),
                            (judge_undoes(BACK, BACK), "aab"), (judge_undoes(DOUBLE, ORDER), "a"),
                            (judge_commute(AHEAD, ORDER), "ab")):
            if text is None:
                self.assertIsInstance(found, Same)
            else:
                self.assertEqual(found, Differ(text))


class FoundOutInUnlikeWays(unittest.TestCase):
    def some_pairs(self):
        for number in range(60):
            one = counted(number, "ab", 1 + number % 2, PLAIN_MOVES)
            for other in (renamed(one), doubled(one), shuffled(one, number), counted(number + 31, "ab", 2)):
                yield one, other

    def test_by_texts_and_by_signs(self):
        for one, other in self.some_pairs():
            told = []
            for few, many, small in ((0, 0, 0), (0, 0, 10 ** 9), (30, 300, 100), (2, 50, 10 ** 9), (1000, 1000, 0)):
                with mock.patch("passtexts.deciding.FEW", few), mock.patch("passtexts.deciding.MANY", many), \
                        mock.patch("passtexts.deciding.SMALL", small):
                    told.append(judge_same(one, other))
            self.assertTrue(all(found == told[0] for found in told))
            self.assertEqual(getattr(told[0], "text", None), first_differing(one, other, 6))

    def test_a_text_behind_the_first_ones(self):
        one, other = waiting(6, ("b", ("x",))), waiting(6, (("x",), "a"))
        self.assertEqual(judge_same(one, other), Differ("bbbbbb"))
        self.assertEqual(judge_same(one, one), Same({(state, ("x",), state, ("x",)): 0 for state in range(8)}))

    def test_a_text_that_is_found_where_there_are_too_many_sums(self):
        one, other = waiting(2, ("b", ("x",))), waiting(2, (("x",), "a"))
        for limit in ("passtexts.walks.MOST_MET", "passtexts.marks.MOST_NODES"):
            with mock.patch(limit, 2), mock.patch("passtexts.deciding.FEW", 1):
                self.assertEqual(judge_same(one, other), Differ("bb"))
                with self.assertRaises(TooLarge):
                    judge_same(waiting(2, ("b", ("x",))), waiting(2, ("b", ("x",))))
                with mock.patch("passtexts.deciding.MANY", 1), self.assertRaises(TooLarge):
                    judge_same(one, other)
        self.assertTrue(judge_same(echo(), echo("ab", 2)))

"""The examples that the document prints, as they stand."""

import doctest
import unittest

PROGRAMS = '''
>>> from passtexts.programs import Program
>>> turned = Program("ab", 1, ["x"], {}, {(0, "a"): (0, {"x": ("a", ("x",))}), (0, "b"): (0, {"x": ("b", ("x",))})}, {0: (("x",), "c")})
>>> [turned("aab"), turned.after("ab"), turned.steps[(0, "a")], turned.reached()]
['baac', (0, {'x': 'ba'}), (0, {'x': ('a', ('x',))}), [0]]
'''

THRIFTY = '''
>>> from passtexts.programs import Program
>>> from passtexts.thrifty import is_plain, judge_thrifty
>>> copies = Program("a", 1, ["x", "y"], {}, {(0, "a"): (0, {"x": (("x",), "a"), "y": (("x",),)})}, {0: (("x",),)})
>>> found = judge_thrifty(Program("a", 1, ["x"], {"x": "a"}, {(0, "a"): (0, {"x": (("x",), ("x",))})}, {0: (("x",),)}))
>>> [is_plain(copies), judge_thrifty(copies).lives, bool(found), found.name, found.rest]
[False, [(0, ('x',))], False, 'x', 'a']
'''

ALIKE = '''
>>> from passtexts.alike import judge_lengths, judge_same
>>> from passtexts.programs import Program
>>> steps = {(0, "a"): (0, {"x": (("x",), "cd")}), (0, "b"): (0, {"y": (("y",), "cd")})}
>>> one = Program("ab", 1, ["x", "y"], {}, steps, {0: (("x",), "cd", ("y",))})
>>> other = Program("ab", 1, ["x", "y"], {}, steps, {0: (("y",), "cd", ("x",))})
>>> late = Program("ab", 1, ["x", "y"], {}, steps, {0: (("x",), ("y",), "dc")})
>>> [bool(judge_same(one, other)), judge_same(one, late).text, judge_lengths(one, late).heights]
[True, '', {(0, ('x', 'y'), 0, ('x', 'y')): 0}]
'''

BEHIND = '''
>>> from passtexts.behind import behind, judge_again, judge_undoes
>>> from passtexts.programs import Program
>>> turned = Program("ab", 1, ["x"], {}, {(0, "a"): (0, {"x": ("a", ("x",))}), (0, "b"): (0, {"x": ("b", ("x",))})}, {0: (("x",),)})
>>> only = Program("ab", 1, ["x"], {}, {(0, "a"): (0, {"x": (("x",), "a")}), (0, "b"): (0, {})}, {0: (("x",),)})
>>> [bool(judge_undoes(turned, turned)), judge_undoes(only, only).text, bool(judge_again(only)), behind(turned, only)("abaab")]
[True, 'b', True, 'aaa']
'''

NEEDLESS = '''
>>> from passtexts.needless import leaned, needless, trimmed
>>> from passtexts.programs import Program
>>> more = Program("a", 2, ["x", "y"], {"y": "a"}, {(0, "a"): (0, {"x": (("x",), "b")}), (1, "a"): (0, {})}, {0: (("x",),)})
>>> [needless(more), leaned(more).registers, trimmed(more).states, trimmed(more).registers]
[['y'], ['x'], 1, ['x']]
'''

RUNS = '''
>>> from passtexts.programs import Program
>>> from passtexts.runs import Run
>>> run = Run(Program("ab", 1, ["x"], {}, {(0, "a"): (0, {"x": ("a", ("x",))}), (0, "b"): (0, {"x": ("b", ("x",))})}, {0: (("x",),)}))
>>> [run.read("ab").written(), run.read("a").back(2).text(), run.contents(), len(run)]
['ba', 'a', {'x': 'a'}, 1]
'''

ORIGINS = '''
>>> from passtexts.alike import write_same
>>> from passtexts.origins import judge_origins, origins
>>> from passtexts.programs import Program
>>> one = Program("a", 1, ["x"], {"x": "b"}, {(0, "a"): (0, {"x": (("x",), "a")})}, {0: (("x",), "c")})
>>> other = Program("a", 1, ["x"], {}, {(0, "a"): (0, {"x": ("a", ("x",))})}, {0: ("b", ("x",), "c")})
>>> [origins(one, "aa"), origins(other, "aa"), write_same(one, other), judge_origins(one, other).text]
[[-1, 0, 1, 2], [2, 1, 0, 2], True, '']
'''

BEGINNINGS = '''
>>> from passtexts.beginnings import judge_beginning, judge_growing, judge_longer
>>> from passtexts.programs import Program
>>> steps = {(0, "a"): (0, {"x": (("x",), "cd")}), (0, "b"): (0, {"x": (("x",), "c")})}
>>> one = Program("ab", 1, ["x"], {}, steps, {0: (("x",),)})
>>> other = Program("ab", 1, ["x"], {}, steps, {0: (("x",), "cc")})
>>> [judge_longer(one, other).number, bool(judge_beginning(one, other)), bool(judge_growing(one)), judge_growing(other).text, judge_growing(other).letter]
[-2, True, True, '', 'a']
'''

RULES = '''
>>> from passtexts.programs import Program
>>> from passtexts.rules import exchanged, ignored, judge_rule
>>> ordered = Program("ab", 1, ["x", "y"], {}, {(0, "a"): (0, {"x": (("x",), "a")}), (0, "b"): (0, {"y": (("y",), "b")})}, {0: (("x",), ("y",))})
>>> only = Program("ab", 1, ["x"], {}, {(0, "a"): (0, {"x": (("x",), "a")}), (0, "b"): (0, {})}, {0: (("x",),)})
>>> [exchanged(ordered), ignored(ordered), ignored(only), bool(judge_rule(only, "ab", "ba")), bool(judge_rule(ordered, "aa", "a"))]
[[('a', 'b')], '', 'b', True, False]
'''


class Examples(unittest.TestCase):
    def check(self, text):
        test = doctest.DocTestParser().get_doctest(text, {}, "example", None, 0)
        said = []
        found = doctest.DocTestRunner().run(test, out=said.append)
        self.assertGreater(found.attempted, 0)
        self.assertEqual(found.failed, 0, "".join(said))

    def test_programs(self):
        self.check(PROGRAMS)

    def test_thrifty(self):
        self.check(THRIFTY)

    def test_alike(self):
        self.check(ALIKE)

    def test_behind(self):
        self.check(BEHIND)

    def test_needless(self):
        self.check(NEEDLESS)

    def test_runs(self):
        self.check(RUNS)

    def test_origins(self):
        self.check(ORIGINS)

    def test_beginnings(self):
        self.check(BEGINNINGS)

    def test_rules(self):
        self.check(RULES)

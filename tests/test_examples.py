"""The examples that the document prints, as they stand."""

import doctest
import unittest

PROGRAMS = '''
>>> from passtexts.programs import Program
>>> turned = Program("ab", 1, ["x"], {}, {(0, "a"): (0, {"x": ("a", ("x",))}), (0, "b"): (0, {"x": ("b", ("x",))})}, {0: (("x",), "c")})
>>> [turned("aab"), turned.after("ab"), turned.steps[(0, "a")], turned.reached()]
['baac', (0, {'x': 'ba'}), (0, {'x': ('a', ('x',))}), [0]]
'''

THRIFTY = '''
>>> from passtexts.programs import Program
>>> from passtexts.thrifty import is_plain, judge_thrifty
>>> copies = Program("a", 1, ["x", "y"], {}, {(0, "a"): (0, {"x": (("x",), "a"), "y": (("x",),)})}, {0: (("x",),)})
>>> found = judge_thrifty(Program("a", 1, ["x"], {"x": "a"}, {(0, "a"): (0, {"x": (("x",), ("x",))})}, {0: (("x",),)}))
>>> [is_plain(copies), judge_thrifty(copies).lives, bool(found), found.name, found.rest]
[False, [(0, ('x',))], False, 'x', 'a']
'''

ALIKE = '''
>>> from passtexts.alike import judge_lengths, judge_same
>>> from passtexts.programs import Program
>>> steps = {(0, "a"): (0, {"x": (("x",), "cd")}), (0, "b"): (0, {"y": (("y",), "cd")})}
>>> one = Program("ab", 1, ["x", "y"], {}, steps, {0: (("x",), "cd", ("y",))})
>>> other = Program("ab", 1, ["x", "y"], {}, steps, {0: (("y",), "cd", ("x",))})
>>> late = Program("ab", 1, ["x", "y"], {}, steps, {0: (("x",), ("y",), "dc")})
>>> [bool(judge_same(one, other)), judge_same(one, late).text, judge_lengths(one, late).heights]
[True, '', {(0, ('x', 'y'), 0, ('x', 'y')): 0}]
'''

BEHIND = '''
>>> from passtexts.behind import behind, judge_again, judge_undoes
>>> from passtexts.programs import Program
>>> turned = Program("ab", 1, ["x"], {}, {(0, "a"): (0, {"x": ("a", ("x",))}), (0, "b"): (0, {"x": ("b", ("x",))})}, {0: (("x",),)})
>>> only = Program("ab", 1, ["x"], {}, {(0, "a"): (0, {"x": (("x",), "a")}), (0, "b"): (0, {})}, {0: (("x",),)})
>>> [bool(judge_undoes(turned, turned)), judge_undoes(only, only).text, bool(judge_again(only)), behind(turned, only)("abaab")]
[True, 'b', True, 'aaa']
'''

NEEDLESS = '''
>>> from passtexts.needless import leaned, needless, trimmed
>>> from passtexts.programs import Program
>>> more = Program("a", 2, ["x", "y"], {"y": "a"}, {(0, "a"): (0, {"x": (("x",), "b")}), (1, "a"): (0, {})}, {0: (("x",),)})
>>> [needless(more), leaned(more).registers, trimmed(more).states, trimmed(more).registers]
[['y'], ['x'], 1, ['x']]
'''

RUNS = '''
>>> from passtexts.programs import Program
>>> from passtexts.runs import Run
>>> run = Run(Program("ab", 1, ["x"], {}, {(0, "a"): (0, {"x": ("a", ("x",))}), (0, "b"): (0, {"x": ("b", ("x",))})}, {0: (("x",),)}))
>>> [run.read("ab").written(), run.read("a").back(2).text(), run.contents(), len(run)]
['ba', 'a', {'x': 'a'}, 1]
'''


class Examples(unittest.TestCase):
    def check(self, text):
        test = doctest.DocTestParser().get_doctest(text, {}, "example", None, 0)
        said = []
        found = doctest.DocTestRunner().run(test, out=said.append)
        self.assertGreater(found.attempted, 0)
        self.assertEqual(found.failed, 0, "".join(said))

    def test_programs(self):
        self.check(PROGRAMS)

    def test_thrifty(self):
        self.check(THRIFTY)

    def test_alike(self):
        self.check(ALIKE)

    def test_behind(self):
        self.check(BEHIND)

    def test_needless(self):
        self.check(NEEDLESS)

    def test_runs(self):
        self.check(RUNS)

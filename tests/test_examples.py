"""The examples that the document prints, as they stand."""

import doctest
import unittest

PROGRAMS = '''
>>> from passtexts.programs import Program
>>> turned = Program("ab", 1, ["x"], {}, {(0, "a"): (0, {"x": ("a", ("x",))}), (0, "b"): (0, {"x": ("b", ("x",))})}, {0: (("x",), "c")})
>>> [turned("aab"), turned.after("ab"), turned.steps[(0, "a")], turned.reached()]
['baac', (0, {'x': 'ba'}), (0, {'x': ('a', ('x',))}), [0]]
'''

THRIFTY = '''
>>> from passtexts.programs import Program
>>> from passtexts.thrifty import is_plain, judge_thrifty
>>> copies = Program("a", 1, ["x", "y"], {}, {(0, "a"): (0, {"x": (("x",), "a"), "y": (("x",),)})}, {0: (("x",),)})
>>> found = judge_thrifty(Program("a", 1, ["x"], {"x": "a"}, {(0, "a"): (0, {"x": (("x",), ("x",))})}, {0: (("x",),)}))
>>> [is_plain(copies), judge_thrifty(copies).lives, bool(found), found.name, found.rest]
[False, [(0, ('x',))], False, 'x', 'a']
'''

ALIKE = '''
>>> from passtexts.alike import judge_lengths, judge_same
>>> from passtexts.programs import Program
>>> steps = {(0, "a"): (0, {"x": (("x",), "cd")}), (0, "b"): (0, {"y": (("y",), "cd")})}
>>> one = Program("ab", 1, ["x", "y"], {}, steps, {0: (("x",), "cd", ("y",))})
>>> other = Program("ab", 1, ["x", "y"], {}, steps, {0: (("y",), "cd", ("x",))})
>>> late = Program("ab", 1, ["x", "y"], {}, steps, {0: (("x",), ("y",), "dc")})
>>> [bool(judge_same(one, other)), judge_same(one, late).text, judge_lengths(one, late).heights]
[True, '', {(0, ('x', 'y'), 0, ('x', 'y')): 0}]
'''

BEHIND = '''
>>> from passtexts.behind import behind, judge_again, judge_undoes
>>> from passtexts.programs import Program
>>> turned = Program("ab", 1, ["x"], {}, {(0, "a"): (0, {"x": ("a", ("x",))}), (0, "b"): (0, {"x": ("b", ("x",))})}, {0: (("x",),)})
>>> only = Program("ab", 1, ["x"], {}, {(0, "a"): (0, {"x": (("x",), "a")}), (0, "b"): (0, {})}, {0: (("x",),)})
>>> [bool(judge_undoes(turned, turned)), judge_undoes(only, only).text, bool(judge_again(only)), behind(turned, only)("abaab")]
[True, 'b', True, 'aaa']
'''

NEEDLESS = '''
>>> from passtexts.needless import leaned, needless, trimmed
>>> from passtexts.programs import Program
>>> more = Program("a", 2, ["x", "y"], {"y": "a"}, {(0, "a"): (0, {"x": (("x",), "b")}), (1, "a"): (0, {})}, {0: (("x",),)})
>>> [needless(more), leaned(more).registers, trimmed(more).states, trimmed(more).registers]
[['y'], ['x'], 1, ['x']]
'''

RUNS = '''
>>> from passtexts.programs import Program
>>> from passtexts.runs import Run
>>> run = Run(Program("ab", 1, ["x"], {}, {(0, "a"): (0, {"x": ("a", ("x",))}), (0, "b"): (0, {"x": ("b", ("x",))})}, {0: (("x",),)}))
>>> [run.read("ab").written(), run.read("a").back(2).text(), run.contents(), len(run)]
['ba', 'a', {'x': 'a'}, 1]
'''

ORIGINS = '''
>>> from passtexts.alike import write_same
>>> from passtexts.origins import judge_origins, origins
>>> from passtexts.programs import Program
>>> one = Program("a", 1, ["x"], {"x": "b"}, {(0, "a"): (0, {"x": (("x",), "a")})}, {0: (("x",), "c")})
>>> other = Program("a", 1, ["x"], {}, {(0, "a"): (0, {"x": ("a", ("x",))})}, {0: ("b", ("x",), "c")})
>>> [origins(one, "aa"), origins(other, "aa"), write_same(one, other), judge_origins(one, other).text]
[[-1, 0, 1, 2], [2, 1, 0, 2], True, '']
'''

BEGINNINGS = '''
>>> from passtexts.beginnings import judge_beginning, judge_growing, judge_longer
>>> from passtexts.programs import Program
>>> steps = {(0, "a"): (0, {"x": (("x",), "cd")}), (0, "b"): (0, {"x": (("x",), "c")})}
>>> one = Program("ab", 1, ["x"], {}, steps, {0: (("x",),)})
>>> other = Program("ab", 1, ["x"], {}, steps, {0: (("x",), "cc")})
>>> [judge_longer(one, other).number, bool(judge_beginning(one, other)), bool(judge_growing(one)), judge_growing(other).text, judge_growing(other).letter]
[-2, True, True, '', 'a']
'''

RULES = '''
>>> from passtexts.programs import Program
>>> from passtexts.rules import exchanged, ignored, judge_rule
>>> ordered = Program("ab", 1, ["x", "y"], {}, {(0, "a"): (0, {"x": (("x",), "a")}), (0, "b"): (0, {"y": (("y",), "b")})}, {0: (("x",), ("y",))})
>>> only = Program("ab", 1, ["x"], {}, {(0, "a"): (0, {"x": (("x",), "a")}), (0, "b"): (0, {})}, {0: (("x",),)})
>>> [exchanged(ordered), ignored(ordered), ignored(only), bool(judge_rule(only, "ab", "ba")), bool(judge_rule(ordered, "aa", "a"))]
[[('a', 'b')], '', 'b', True, False]
'''

POWERS = """
>>> from passtexts.powers import written_for
>>> from passtexts.programs import Program
>>> turned = Program("ab", 1, ["x"], {}, {(0, "a"): (0, {"x": ("a", ("x",))}), (0, "b"): (0, {"x": ("b", ("x",))})}, {0: (("x",), "c")})
>>> found = written_for(turned, "a", "ab", 10 ** 12, "b")
>>> [found.size(), found.part(0, 6), found.sign(10 ** 12), found.part(2 * 10 ** 12, found.size())]
[2000000000003, 'bbabab', 'a', 'aac']
"""

SETS = """
>>> from passtexts.programs import Program
>>> from passtexts.sets import TextSet, domain, judge_into, parting, texts_into
>>> program = Program('ab', 1, ['x'], {}, {(0, 'a'): (0, {'x': ('b', ('x',))}), (0, 'b'): (0, {'x': (('x',), 'a')})}, {0: (('x',),)})
>>> line = TextSet('ab', [{'a': 1, 'b': 0}, {'a': 1, 'b': 2}, {'a': 2, 'b': 2}], [0, 1])
>>> every = TextSet('ab', [{'a': 0, 'b': 0}], [0])
>>> [bool(judge_into(program, every, line)), texts_into(program, line) == every, judge_into(program, every, TextSet('ab', [{'a': 1, 'b': 1}, {'a': 1, 'b': 1}], [0])).text, parting(line, every), domain(program) == every]
[True, True, 'a', 'ab', True]
"""

MAKING = """
>>> from passtexts.making import beside, read_as, respelled, turned
>>> from passtexts.programs import Program
>>> program = Program('ab', 1, ['x'], {}, {(0, 'a'): (0, {'x': (('x',), 'a')}), (0, 'b'): (0, {'x': (('x',), 'b')})}, {0: (('x',),)})
>>> [beside(program, turned(program))('aab'), respelled(program, {'b': 'cc'})('ab'), read_as(program, {'x': 'ab', 'y': 'b'})('xxy')]
['aabbaa', 'acc', 'ababb']
"""

LONGEST = """
>>> from passtexts.longest import judge_rate, longest, most_length
>>> from passtexts.programs import Program
>>> program = Program('ab', 1, ['x'], {'x': 'c'}, {(0, 'a'): (0, {'x': ('a', ('x',), 'a')}), (0, 'b'): (0, {})}, {0: (('x',), 'e')})
>>> found = judge_rate(program)
>>> [longest(program, 3), (found.top, found.below), found.shows(program), most_length(program)]
[8, (2, 1), True, None]
"""

PROGRAMTEXTS = r'''
>>> from passtexts.programtexts import read_program, write_program
>>> program = read_program('letters ab\nregisters x\n0 a 0: x = x "1" # counts\n0 b 0\nend 0: x "e"')
>>> [program('aba'), write_program(program)]
['11e', 'letters ab\nregisters x\n0 a 0: x = x "1"\n0 b 0\nend 0: x "e"\n']
'''

SCRIPTS = r'''
>>> from passtexts.scripts import read_script
>>> text = 'letters ab; counter n 2; text x; on a when n < 2 { x = "a" x; n = n + 1; } on b { x = x "b"; n = 0; } end: x;'
>>> script = read_script(text + ' # at most two a in a row')
>>> [script.letters, script.counters, script.texts, len(script), script == read_script(text.replace('on b', 'on b when true'))]
['ab', {'n': 2}, {'x': ''}, 2, True]
'''

SCRIPTWRITING = r'''
>>> from passtexts.scripts import read_script
>>> from passtexts.scriptwriting import write_script
>>> script = read_script('letters ba; text x; part put(t) { t = t "1"; } on ab { if (true) { do put ( x ); } else { } } end when not (1 < 0 or 2 = 3): x;')
>>> write_script(script)
'letters ab;\ntext x;\npart put(t) {\n  t = t "1";\n}\non any {\n  if true {\n    do put(x);\n  }\n}\nend when not (1 < 0 or 2 = 3): x;\n'
'''

SCRIPTRUNS = r'''
>>> from passtexts.scriptruns import Stepper, run_script
>>> from passtexts.scripts import read_script
>>> script = read_script('letters ab; counter n 2; text x; on a when n < 2 { x = "a" x; n = n + 1; } on b { x = x "b"; n = 0; } end: x;')
>>> stepper = Stepper(script).read('aaab')
>>> [run_script(script, 'aabaab'), stepper.rules(), stepper.counters(), stepper.written(), stepper.back().counters()]
['aaaabb', [0, 0, None, 1], {'n': 0}, 'aab', {'n': 2}]
'''

COMPILING = r'''
>>> from passtexts.compiling import compiled, judge_scripts, states_of
>>> from passtexts.scripts import read_script
>>> text = 'letters ab; counter n 2; text x; on a when n < 2 { x = "a" x; n = n + 1; } on b { x = x "b"; n = 0; } end: x;'
>>> one, other = read_script(text), read_script(text.replace('n < 2', 'n != 2'))
>>> [states_of(one), compiled(one).steps[(0, 'b')], bool(judge_scripts(one, other)), judge_scripts(one, read_script(text.replace('n < 2', 'n < 1'))).text]
[[{'n': 0}, {'n': 1}, {'n': 2}], (0, {'x': (('x',), 'b')}), True, 'aa']
'''

IMPROVING = r'''
>>> from passtexts.improving import improved, needless_rules, unused_rules
>>> from passtexts.scripts import read_script
>>> from passtexts.scriptwriting import write_script
>>> script = read_script('letters ab; counter n 9; text x; on a { x = x "a"; n = 1; } on a when n = 1 { x = ; } on b when n > 0 { x = x "b"; } on b { x = x "b"; } end: x;')
>>> [unused_rules(script), needless_rules(script), write_script(improved(script))]
[[1], [1, 2], 'letters ab;\ntext x;\non a {\n  x = x "a";\n}\non b {\n  x = x "b";\n}\nend: x;\n']
'''

PIPES = r'''
>>> from passtexts.compiling import compiled
>>> from passtexts.pipes import Pipe, fused, idle_stages, judge_swap, needless_stages, orders, refused_sets
>>> from passtexts.scripts import read_script
>>> head = 'letters ab; counter n 2; text x; '
>>> few = compiled(read_script(head + 'on a { n = n + 1; x = x "a"; if n = 2 { stop; } } on b { x = x "b"; } end: x;'))
>>> back = compiled(read_script('letters ab; text x; on a { x = "a" x; } on b { x = "b" x; } end: x;'))
>>> pipe = Pipe([back, few, back])
>>> [pipe.through('baa'), pipe('ab'), fused(pipe)('bba'), pipe.refuses('aa'), needless_stages(pipe), orders(pipe) == orders(Pipe([back, few, back])), len(orders(pipe)), refused_sets(pipe)[1].first(), bool(judge_swap(pipe, 0))]
[['aab', None, None], 'ab', 'bba', 1, [], True, 6, 'aa', True]
'''


class Examples(unittest.TestCase):
    def check(self, text):
        test = doctest.DocTestParser().get_doctest(text, {}, "example", None, 0)
        said = []
        found = doctest.DocTestRunner().run(test, out=said.append)
        self.assertGreater(found.attempted, 0)
        self.assertEqual(found.failed, 0, "".join(said))

    def test_programs(self):
        self.check(PROGRAMS)

    def test_thrifty(self):
        self.check(THRIFTY)

    def test_alike(self):
        self.check(ALIKE)

    def test_behind(self):
        self.check(BEHIND)

    def test_needless(self):
        self.check(NEEDLESS)

    def test_runs(self):
        self.check(RUNS)

    def test_origins(self):
        self.check(ORIGINS)

    def test_beginnings(self):
        self.check(BEGINNINGS)

    def test_rules(self):
        self.check(RULES)

    def test_powers(self):
        self.check(POWERS)

    def test_sets(self):
        self.check(SETS)

    def test_making(self):
        self.check(MAKING)

    def test_longest(self):
        self.check(LONGEST)

    def test_programtexts(self):
        self.check(PROGRAMTEXTS)

    def test_scripts(self):
        self.check(SCRIPTS)

    def test_scriptwriting(self):
        self.check(SCRIPTWRITING)

    def test_scriptruns(self):
        self.check(SCRIPTRUNS)

    def test_compiling(self):
        self.check(COMPILING)

    def test_improving(self):
        self.check(IMPROVING)

    def test_pipes(self):
        self.check(PIPES)

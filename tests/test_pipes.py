"""Point [30]: pipes, what their stages write, and pipes as one program."""

import unittest

from passtexts.alike import Differ, Same, judge_same
from passtexts.behind import behind
from passtexts.compiling import compiled
from passtexts.errors import BadNumber, BadPipe, BadProgram, BadWord, PassError, Unlike
from passtexts.making import kept, respelled
from passtexts.pipes import Pipe, fused, judge_pipes, merged, piped
from passtexts.programs import Program
from passtexts.scriptruns import run_script
from passtexts.scripts import read_script
from passtexts.sets import TextSet
from passtexts.thrifty import is_plain, judge_thrifty
from tests.helpers import copying, doubling, echo, ending, every_text, shares
from tests.pipes_made import (ADDING, AROUND, FEW, LAST, SHAPES, SHORT, by_stages, first_apart, fitting, refusing_texts,
                              some_stages)
from tests.test_behind import every_other, exchanging, halves, leaving_out, turning


def three():
    return Pipe([turning(), FEW, exchanging()])


class Doing(unittest.TestCase):
    def test_stage_by_stage(self):
        refused = 0
        for stages in some_stages():
            pipe = Pipe(stages)
            for text in every_text(stages[0].letters, 4):
                written = by_stages(stages, text)
                self.assertEqual(pipe.through(text), written)
                self.assertEqual(pipe(text), written[-1])
                number = written.index(None) if None in written else None
                self.assertEqual(pipe.refuses(text), number)
                refused += number is not None and number > 0
        self.assertGreater(refused, 300)

    def test_the_stage_that_refuses(self):
        pipe = Pipe([LAST, FEW, turning(), refusing_texts("a")])
        self.assertEqual([pipe.refuses(text) for text in ("", "a", "b", "aab", "ab", "bb")], [0, 0, None, 1, 3, None])
        self.assertEqual(pipe.through("bab"), ["bab", "bab", "bab", None])
        self.assertEqual(pipe.through("aab"), ["aab", None, None, None])
        self.assertEqual(pipe.through("bba"), [None] * 4)
        self.assertIsNone(pipe("aab"))
        self.assertEqual(pipe("bb"), "bb")

    def test_one_and_six_stages(self):
        one = Pipe([turning()])
        self.assertEqual((one("aab"), one.through("aab"), one.refuses("aab"), len(one)), ("baa", ["baa"], None, 1))
        six = Pipe([turning(), leaving_out("a"), ADDING, exchanging(), turning(), ADDING])
        self.assertEqual(six.through("babb"), ["bbab", "bbb", "bbba", "aaab", "baaa", "baaaa"])
        self.assertEqual(len(six), 6)

    def test_the_first_stage_may_be_other_than_plain(self):
        pipe = Pipe([AROUND, turning()])
        self.assertFalse(is_plain(AROUND))
        for text in every_text("ab", 5):
            self.assertEqual(pipe(text), AROUND(text)[::-1])

    def test_other_letters_between(self):
        first = respelled(echo("xy"), {"x": "ab", "y": "0"})
        pipe = Pipe([first, respelled(echo("ab0"), {"0": "z"}), echo("abz9")])
        self.assertEqual(pipe.through("xyx"), ["ab0ab", "abzab", "abzab"])

    def test_refused_texts(self):
        pipe = Pipe([respelled(echo("xy"), {"x": "ab", "y": "0"}), echo("ab0")])
        for call in (pipe, pipe.through, pipe.refuses):
            for text, place in ((None, None), (1, None), (["x"], None), ("a", 0), ("xya", 2), ("x y", 1), ("xY", 1)):
                with self.assertRaises(BadWord) as caught:
                    call(text)
                self.assertEqual(caught.exception.place, place)

    def test_compiled_scripts_as_stages(self):
        scripts = [read_script("letters ab; counter n 3; text x; " + told) for told in (
            'on a { n = n + 1; x = x "b"; if n = 3 { n = 0; x = x "a"; } } on b { x = "a" x; } end when n != 1: x;',
            'on b { n = n + 1; } on a when n = 0 { stop; } on a { n = n - 1; x = "a" x "b"; } end: x;',
            'on any when n = 3 { } on any { n = n + 1; x = x "a"; } end when n = 0: none; end: x "b";')]
        pipe = Pipe([compiled(script) for script in scripts])
        whole = fused(pipe)
        seen = set()
        for text in every_text("ab", 6):
            written = [text]
            for script in scripts:
                written.append(None if written[-1] is None else run_script(script, written[-1]))
            self.assertEqual(pipe.through(text), written[1:])
            self.assertEqual(whole(text), written[-1])
            seen.add(pipe.refuses(text))
        self.assertEqual(seen, {0, 1, 2, None})


class Made(unittest.TestCase):
    def number_of(self, stages):
        with self.assertRaises(BadPipe) as caught:
            Pipe(stages)
        return caught.exception.number

    def test_errors(self):
        self.assertEqual(BadPipe.__bases__, (PassError,))

    def test_lists_and_tuples_of_1_to_6(self):
        for many in range(1, 7):
            self.assertEqual(Pipe([echo()] * many), Pipe((echo(),) * many))
        for wrong in (None, echo(), "ab", {}, {0: echo()}, [], (), [echo()] * 7, (echo(),) * 7, [None] * 7, 1, Pipe([echo()]), {echo: 1}):
            self.assertIsNone(self.number_of(wrong))

    def test_what_is_no_program(self):
        for place in range(4):
            for wrong in (None, "ab", [echo()], 1, Pipe([echo()])):
                stages = [echo()] * 4
                stages[place] = wrong
                self.assertEqual(self.number_of(stages), place)

    def test_the_first_one_is_thrifty_and_the_others_are_plain(self):
        self.assertEqual(self.number_of([doubling()]), 0)
        self.assertEqual(self.number_of([doubling(), None, doubling()]), 0)
        self.assertTrue(judge_thrifty(copying()))
        self.assertFalse(is_plain(copying()))
        self.assertEqual(len(Pipe([copying(), echo()])), 2)
        self.assertEqual(self.number_of([copying(), copying()]), 1)
        self.assertEqual(self.number_of([echo(), echo(), copying(), doubling()]), 2)
        self.assertEqual(self.number_of([echo(), doubling(), None]), 1)

    def test_each_reads_all_signs_of_the_one_ahead(self):
        told = {(0, "a"): (0, {}), (1, "a"): (1, {})}
        plain = Program("a", 2, ["x", "y"], {}, told, {0: (("x",),)})
        wrong = (Program("a", 2, ["x", "y"], {"y": "c"}, told, {}), ending(plain, {1: (("x",), "c")}), ending(plain, {0: ("a", ("x",), "ac")}),
                 Program("a", 2, ["x", "y"], {}, {(0, "a"): (0, {}), (1, "a"): (1, {"y": ("c",)})}, {}), echo("abc"),
                 Program("a", 2, ["x", "y"], {}, {(0, "a"): (0, {"x": (("x",), "aca")}), (1, "a"): (1, {})}, {0: (("y",),)}))
        for program in wrong:
            self.assertEqual(self.number_of([program, echo("ab")]), 1)
            self.assertEqual(self.number_of([program, echo("ab"), None]), 1)
            self.assertEqual(len(Pipe([program, echo("abc")])), 2)
            self.assertEqual(self.number_of([echo("a"), program, echo("ac"), echo("a")]), 2 if program.letters == "abc" else 3)
        self.assertEqual(len(Pipe([plain, echo("b")])), 2)
        self.assertEqual(self.number_of([echo("ab"), echo("a")]), 1)

    def test_the_first_one_that_is_not_as_told(self):
        self.assertEqual(self.number_of([echo("ab"), echo("ab"), echo("a"), copying(), None]), 2)
        self.assertEqual(self.number_of([echo("ab"), copying(), echo("a"), None]), 1)
        self.assertEqual(self.number_of([None, None]), 0)

    def test_stages(self):
        stages = [turning(), FEW, exchanging()]
        pipe = Pipe(stages)
        self.assertIsInstance(pipe.stages, list)
        self.assertEqual(pipe.stages, stages)
        self.assertEqual([pipe.stage(number) for number in range(3)], stages)
        for wrong in (-1, 3, "1", None, True, False, 1.0, 10 ** 9):
            with self.assertRaises(BadNumber):
                pipe.stage(wrong)

    def test_equal_ones(self):
        self.assertEqual(three(), three())
        self.assertFalse(three() != three())
        for other in (Pipe([turning(), FEW]), Pipe([turning(), exchanging(), FEW]), Pipe([turning(), FEW, exchanging(), echo()]),
                      Pipe([turning(), SHORT, exchanging()]), [turning(), FEW, exchanging()], None, fused(three()), 3):
            self.assertFalse(three() == other)
            self.assertTrue(three() != other)
        self.assertNotEqual(Pipe([echo()]), Pipe([fused(Pipe([echo(), echo()]))] * 2))

    def test_nothing_is_kept(self):
        stages = [turning(), echo(), exchanging()]
        pipe = Pipe(stages)
        self.assertFalse(any(shares(one, other) for one in stages for other in pipe.stages))
        twice = echo()
        self.assertFalse(shares(*Pipe([twice, twice]).stages))
        stages[0].ends.clear()
        stages[1].steps[(0, "a")][1]["x"] = ("b",)
        stages.pop()
        self.assertEqual(pipe, Pipe([turning(), echo(), exchanging()]))
        pipe.stage(1).ends.clear()
        pipe.stage(0).firsts["x"] = "b"
        pipe.through("ab").append(None)
        self.assertEqual(pipe, Pipe([turning(), echo(), exchanging()]))
        self.assertEqual(pipe("aab"), "abb")

    def test_what_is_refused_changes_nothing(self):
        pipe = three()
        for call, wrong in ((pipe, "c"), (pipe.through, None), (pipe.refuses, "abc"), (pipe.stage, 3)):
            with self.assertRaises(PassError):
                call(wrong)
        self.assertEqual(pipe, three())


class Piped(unittest.TestCase):
    def test_pipes_and_programs(self):
        self.assertEqual(piped(turning()), Pipe([turning()]))
        self.assertEqual(piped(three()), three())
        self.assertEqual(piped(turning(), FEW, exchanging()), three())
        self.assertEqual(piped(Pipe([turning(), FEW]), exchanging()), three())
        self.assertEqual(piped(turning(), Pipe([FEW, exchanging()])), three())
        self.assertEqual(piped(three(), three()).stages, three().stages * 2)
        self.assertEqual(len(piped(echo(), three(), Pipe([echo()]), echo())), 6)

    def test_refused(self):
        for wrong in ((None,), (echo(), None), (None, doubling()), (doubling(), [echo()]), (three(), three(), three(), "ab"), ([],),
                      (doubling(), doubling(), 1)):
            with self.assertRaises(BadProgram) as caught:
                piped(*wrong)
            self.assertIsNone(caught.exception.part)
        for things, number in (((), None), ((three(), three(), echo()), None), ((doubling(),), 0), ((three(), copying()), 3),
                               ((three(), Pipe([echo("a"), echo("ab")])), 3), ((echo(), three(), doubling()), 4), ((echo("a"),) * 7, None),
                               ((Pipe([echo("a"), echo()]), Pipe([copying(), echo()])), 2), ((echo("c"), three()), 1)):
            with self.assertRaises(BadPipe) as caught:
                piped(*things)
            self.assertEqual(caught.exception.number, number)

    def test_it_is_new(self):
        one, program = three(), echo()
        found = piped(one, program)
        self.assertFalse(any(shares(stage, other) for stage in found.stages for other in one.stages + [program]))
        found.stages.pop()
        found.stages[0].ends.clear()
        self.assertEqual((one, program), (three(), echo()))
        self.assertIsNot(piped(one), one)


class Fused(unittest.TestCase):
    def test_it_writes_what_the_pipe_writes(self):
        for stages in some_stages():
            pipe = Pipe(stages)
            program = fused(pipe)
            self.assertIsInstance(program, Program)
            self.assertEqual(program.letters, stages[0].letters)
            self.assertTrue(judge_thrifty(program))
            for text in every_text(program.letters, 5):
                self.assertEqual(program(text), by_stages(stages, text)[-1])

    def test_one_and_six_stages(self):
        self.assertEqual(fused(Pipe([copying()])), copying())
        program = fused(Pipe([turning(), leaving_out("a"), ADDING, exchanging(), turning(), ADDING]))
        self.assertEqual(program("babb"), "baaaa")

    def test_it_is_new(self):
        for pipe in (three(), Pipe([echo()])):
            program = fused(pipe)
            self.assertFalse(any(shares(program, stage) for stage in pipe.stages))
            program.ends.clear()
            program.firsts.clear()
            self.assertEqual(fused(pipe)("b"), pipe("b"))
        self.assertEqual(pipe, Pipe([echo()]))


class Merged(unittest.TestCase):
    def test_made_ones(self):
        kinds = {True: 0, False: 0}
        for stages in some_stages():
            pipe = Pipe(stages)
            for number in range(len(stages) - 1):
                one = behind(stages[number], stages[number + 1])
                left = stages[:number] + [one] + stages[number + 2:]
                kinds[fitting(left)] += 1
                if not fitting(left):
                    self.assertGreater(number, 0)
                    self.assertFalse(is_plain(one))
                    with self.assertRaises(BadPipe) as caught:
                        merged(pipe, number)
                    self.assertEqual(caught.exception.number, number)
                    continue
                found = merged(pipe, number)
                self.assertEqual(found, Pipe(left))
                self.assertEqual(len(found), len(pipe) - 1)
                for text in every_text("ab", 4):
                    written = by_stages(stages, text)
                    self.assertEqual(found.through(text), written[:number] + written[number + 1:])
            self.assertEqual(pipe, Pipe(stages))
        self.assertGreater(kinds[True], 300)
        self.assertGreater(kinds[False], 0)

    def test_not_plain(self):
        # ahead of what is held there comes a letter, behind which the other one is in the same state, wherever it was
        self.assertFalse(is_plain(behind(turning(), LAST)))
        for ahead in range(1, 5):
            with self.assertRaises(BadPipe) as caught:
                merged(Pipe([echo()] * ahead + [turning(), LAST]), ahead)
            self.assertEqual(caught.exception.number, ahead)
        self.assertEqual(len(merged(Pipe([turning(), LAST, echo(), echo()]), 0)), 3)

    def test_a_plain_one_and_one_with_one_state(self):
        for one in (turning(), every_other(2), halves(), FEW, LAST):
            for other in (turning(), echo(), leaving_out("b"), ADDING):
                pipe = merged(Pipe([echo(), one, other]), 1)
                self.assertEqual(len(pipe), 2)
                self.assertIsNone(first_apart(pipe, Pipe([one, other]), 5))

    def test_numbers(self):
        pipe = three()
        self.assertEqual((len(merged(pipe, 0)), len(merged(pipe, 1))), (2, 2))
        for wrong in (-1, 2, 3, "0", None, True, False, 0.0):
            with self.assertRaises(BadNumber):
                merged(pipe, wrong)
        for wrong in (0, 1, -1):
            with self.assertRaises(BadNumber):
                merged(Pipe([echo()]), wrong)


class Judged(unittest.TestCase):
    def test_against_short_texts(self):
        kinds = {True: 0, False: 0}
        told = [(pipe, fused(pipe)) for pipe in [Pipe(stages) for stages in some_stages()]]
        for number, (one, program) in enumerate(told):
            for other, written in (told[(number * 7 + 3) % len(told)], (Pipe([program]), program), told[(number + 1) % len(told)]):
                if program.letters != written.letters or number % 2:
                    continue
                found = judge_pipes(one, other)
                kinds[bool(found)] += 1
                text = first_apart(program, written, 5)
                self.assertTrue(found.shows(program, written))
                self.assertEqual(found, judge_same(program, written))
                if text is not None:
                    self.assertEqual(found, Differ(text))
                else:
                    self.assertTrue(isinstance(found, Same) or len(found.text) > 5)
        self.assertGreater(min(kinds.values()), 100)

    def test_what_is_known(self):
        for one, other, same in (
                ([turning(), turning()], [echo()], True), ([turning(), exchanging()], [exchanging(), turning()], True),
                ([leaving_out("a"), leaving_out("b")], [leaving_out("b"), leaving_out("a")], True), ([FEW, FEW], [FEW], True),
                ([turning(), LAST], [LAST, turning()], False), ([every_other(2), every_other(2)], [every_other(3)], False),
                ([exchanging()] * 6, [echo()], True), ([exchanging()] * 5, [echo()], False)):
            self.assertEqual(bool(judge_pipes(Pipe(one), Pipe(other))), same)

    def test_unlike_letters(self):
        for one, other in ((echo("a"), echo("ab")), (echo("abc"), echo("ab")), (echo("a"), echo("b"))):
            with self.assertRaises(Unlike) as caught:
                judge_pipes(Pipe([one, echo("abc")]), Pipe([other, echo("abc")]))
            self.assertEqual(caught.exception.what, "letters")
        self.assertTrue(judge_pipes(Pipe([echo("ab"), echo("abc")]), Pipe([echo("ba"), echo("ba")])))

    def test_kept_texts(self):
        some = TextSet("ab", [{"a": 0, "b": 1}, {"a": 1, "b": 0}], [0])
        self.assertTrue(judge_pipes(Pipe([turning(), kept(echo(), some)]), Pipe([kept(echo(), some), turning()])))
        self.assertEqual(judge_pipes(Pipe([turning(), kept(echo(), some)]), Pipe([turning()])).text, "b")


class NoPipes(unittest.TestCase):
    def test_what_is_no_pipe_comes_first(self):
        for wrong in (None, [echo()], echo(), 1, "ab", True):
            for call, more in ((fused, ()), (merged, (9,)), (merged, (None,)), (judge_pipes, (three(),)), (judge_pipes, (None,)),
                               (judge_pipes, (Pipe([echo("c")]),))):
                with self.assertRaises(BadPipe) as caught:
                    call(wrong, *more)
                self.assertIsNone(caught.exception.number)
            with self.assertRaises(BadPipe) as caught:
                judge_pipes(three(), wrong)
            self.assertIsNone(caught.exception.number)

    def test_shapes_are_as_told(self):
        self.assertEqual(len(SHAPES), len({id(shape) for shape in SHAPES}))

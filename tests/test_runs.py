"""Point [8]: runs read on, go back, and try."""

import unittest

from passtexts.errors import BadNumber, BadProgram, BadWord, NothingDone
from passtexts.programs import Program
from passtexts.runs import Run
from tests.helpers import copying, counted, doubling, echo, ending, every_text, shares


class Stopped(Exception):
    """What ends a trial in these tests."""


def told(run):
    """All that a run tells."""
    return run.state, run.text(), len(run), run.contents(), run.written()


def some_run():
    return Run(counted(5, "ab", 3)).read("abba")


class Reading(unittest.TestCase):
    def test_against_the_program(self):
        for number in range(30):
            program = counted(number, "ab", 3)
            for text in every_text("ab", 4):
                run = Run(program)
                for letter in text:
                    self.assertIs(run.read(letter), run)
                self.assertEqual(told(run), (program.after(text)[0], text, len(text), program.after(text)[1],
                                             program(text)))
                self.assertEqual(told(Run(program).read(text)), told(run))
                for many in range(len(text) + 1):
                    shorter = text[:len(text) - many]
                    again = Run(program).read(text).back(many)
                    self.assertEqual(told(again), told(Run(program).read(shorter)))

    def test_at_first(self):
        run = Run(copying())
        self.assertEqual(told(run), (0, "", 0, {"x": "", "y": ""}, ""))
        self.assertEqual(run.program, copying())

    def test_refused_texts(self):
        run = Run(ending(echo("ab", 2), {0: (("x",),)}))
        self.assertEqual([run.written(), run.read("a").written(), run.read("b").written()], ["", None, "ab"])
        self.assertEqual(run.contents(), {"x": "ab"})

    def test_the_empty_text(self):
        run = some_run()
        before = told(run)
        self.assertIs(run.read(""), run)
        self.assertEqual(told(run), before)

    def test_all_or_none(self):
        for text, place in ((None, None), (5, None), (["a"], None), ("abc", 2), ("c", 0), ("aA", 1),
                            ("ab" * 600 + "c", 1200)):
            run = some_run()
            before = told(run)
            with self.assertRaises(BadWord) as caught:
                run.read(text)
            self.assertEqual(caught.exception.place, place)
            self.assertEqual(told(run), before)

    def test_most(self):
        self.assertEqual(Run.MOST, 1000)
        run = Run(echo())
        self.assertEqual(run.MOST, 1000)
        self.assertEqual(len(run.read("ab" * 500)), 1000)
        self.assertEqual(len(run.read("")), 1000)
        with self.assertRaises(BadWord) as caught:
            run.read("a")
        self.assertEqual(caught.exception.place, 0)
        run.back(3)
        with self.assertRaises(BadWord) as caught:
            run.read("abab")
        self.assertEqual(caught.exception.place, 3)
        self.assertEqual(len(run), 997)
        self.assertEqual(run.read("bbb").text(), "ab" * 498 + "abbb")
        with self.assertRaises(BadWord) as caught:
            Run(echo()).read("a" * 1001)
        self.assertEqual(caught.exception.place, 1000)

    def test_letters_that_are_not_read_come_ahead_of_too_many(self):
        with self.assertRaises(BadWord) as caught:
            Run(echo()).read("a" * 1005 + "c")
        self.assertEqual(caught.exception.place, 1005)

    def test_registers_that_grow_beyond_all_bounds(self):
        run = Run(doubling()).read("ab" * 500)
        self.assertEqual((len(run), run.state, run.text()), (1000, 0, "ab" * 500))
        self.assertEqual(run.back(990).contents(), {"x": "a" * 32})

    def test_no_program(self):
        for wrong in (None, 1, "ab", Run(echo())):
            with self.assertRaises(BadProgram) as caught:
                Run(wrong)
            self.assertIsNone(caught.exception.part)

    def test_the_program_is_copied(self):
        program = echo()
        run = Run(program)
        self.assertFalse(shares(run.program, program))
        run.read("ab").contents()["x"] = "changed"
        self.assertEqual(run.contents(), {"x": "ab"})
        self.assertEqual(run.program, program)
        self.assertEqual(program, echo())

    def test_runs_are_their_own(self):
        program = echo()
        one, other = Run(program), Run(program)
        one.read("ab")
        self.assertEqual([len(one), len(other)], [2, 0])


class Back(unittest.TestCase):
    def test_back(self):
        run = Run(echo("ab", 3)).read("abbab")
        self.assertIs(run.back(), run)
        self.assertEqual((run.text(), run.state), ("abba", 1))
        self.assertIs(run.back(0), run)
        self.assertEqual(run.text(), "abba")
        self.assertEqual((run.back(many=3).text(), run.state), ("a", 1))
        self.assertEqual((run.back().text(), run.state), ("", 0))
        self.assertEqual(run.read("b").written(), "b")

    def test_not_a_number(self):
        for wrong in (-1, -10 ** 30, None, "1", 1.0, True, False, [1]):
            run = some_run()
            before = told(run)
            with self.assertRaises(BadNumber):
                run.back(wrong)
            self.assertEqual(told(run), before)

    def test_not_so_many_were_read(self):
        for wrong in (5, 6, 10 ** 30):
            run = some_run()
            before = told(run)
            with self.assertRaises(NothingDone):
                run.back(wrong)
            self.assertEqual(told(run), before)
        with self.assertRaises(NothingDone):
            Run(echo()).back()
        self.assertEqual(told(Run(echo()).back(0)), told(Run(echo())))


class Trials(unittest.TestCase):
    def test_a_trial_works_on_the_run(self):
        run = some_run()
        with run.trial() as same:
            self.assertIs(same, run)
            same.read("ab")
        self.assertEqual(run.text(), "abbaab")

    def test_an_error_puts_all_back(self):
        for work in (lambda run: run.read("abab"), lambda run: run.back(3), lambda run: run.back(4).read("b" * 900)):
            run = some_run()
            before = told(run)
            with self.assertRaises(Stopped):
                with run.trial() as same:
                    work(same)
                    self.assertNotEqual(told(same), before)
                    raise Stopped()
            self.assertEqual(told(run), before)
            self.assertEqual(run.program, counted(5, "ab", 3))
            run.read("a")
            self.assertEqual(run.text(), "abbaa")

    def test_own_errors_put_all_back(self):
        for wrong, error in ((lambda run: run.read("c"), BadWord), (lambda run: run.back(-1), BadNumber),
                             (lambda run: run.back(9), NothingDone)):
            run = some_run()
            before = told(run)
            with self.assertRaises(error):
                with run.trial() as same:
                    same.read("a")
                    wrong(same)
            self.assertEqual(told(run), before)

    def test_an_error_that_is_caught_within_ends_nothing(self):
        run = some_run()
        with run.trial() as same:
            same.read("a")
            try:
                same.read("c")
            except BadWord:
                pass
        self.assertEqual(run.text(), "abbaa")

    def test_one_inside_another(self):
        run = some_run()
        with run.trial() as outer:
            outer.read("a")
            with self.assertRaises(Stopped):
                with outer.trial() as inner:
                    inner.read("bb")
                    raise Stopped()
            self.assertEqual(run.text(), "abbaa")
            outer.read("b")
        self.assertEqual(run.text(), "abbaab")

    def test_both_end_in_an_error(self):
        run = some_run()
        before = told(run)
        with self.assertRaises(Stopped):
            with run.trial() as outer:
                outer.read("a")
                with outer.trial() as inner:
                    inner.back(5)
                    raise Stopped()
        self.assertEqual(told(run), before)

    def test_the_outer_one_alone_ends_in_an_error(self):
        run = some_run()
        before = told(run)
        with self.assertRaises(Stopped):
            with run.trial() as outer:
                with outer.trial() as inner:
                    inner.read("ab")
                self.assertEqual(run.text(), "abbaab")
                raise Stopped()
        self.assertEqual(told(run), before)

    def test_one_trial_inside_itself_and_again(self):
        run = some_run()
        trial = run.trial()
        run.read("b")
        before = told(run)
        with self.assertRaises(Stopped):
            with trial:
                run.read("a")
                with trial:
                    run.read("b")
                raise Stopped()
        self.assertEqual(told(run), before)
        with trial:
            run.read("a")
        self.assertEqual(run.text(), "abbaba")

    def test_attempt(self):
        run = some_run()
        self.assertEqual(run.attempt(lambda same: same.read("a").text()), "abbaa")
        self.assertIs(run.attempt(lambda same: same), run)
        self.assertEqual(run.text(), "abbaa")
        self.assertIsNone(run.attempt(lambda same: None))

    def test_attempt_that_ends_in_an_error(self):
        run = some_run()
        before = told(run)

        def work(same):
            same.read("ab")
            raise Stopped()

        with self.assertRaises(Stopped):
            run.attempt(work)
        self.assertEqual(told(run), before)

    def test_attempt_inside_attempt(self):
        run = some_run()

        def inner(same):
            same.read("b")
            raise Stopped()

        def outer(same):
            same.read("a")
            try:
                same.attempt(inner)
            except Stopped:
                same.read("a")
            return len(same)

        self.assertEqual(run.attempt(outer), 6)
        self.assertEqual(run.text(), "abbaaa")

    def test_the_program_and_the_state_too(self):
        run = some_run()
        before = told(run)
        with self.assertRaises(Stopped):
            with run.trial() as same:
                same.program = Program("a", 1, [], {}, {(0, "a"): (0, {})}, {})
                same.state = 7
                raise Stopped()
        self.assertEqual(told(run), before)

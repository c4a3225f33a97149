"""Point [3]: plain and thrifty programs, and what shows it."""

import unittest

from passtexts.errors import BadProgram
from passtexts.programs import Program
from passtexts.thrifty import Thrifty, Twice, is_plain, judge_thrifty
from passtexts.values import word_of
from tests.helpers import COPY_MOVES, PLAIN_MOVES, copying, counted, doubling, echo, every_text, times_written


def one_step(rows, ends, firsts=None):
    return Program("a", 1, ["x", "y"], firsts or {}, {(0, "a"): (0, rows)}, ends)


def some_programs():
    plain = [counted(number, "ab", 2) for number in range(80)]
    return plain + [counted(number, "ab", 2, PLAIN_MOVES + COPY_MOVES * 3) for number in range(300)]


def first_twice(program, longest):
    """Some text, rest and register that come in twice, by trying short ones."""
    for text in every_text(program.letters, longest):
        for rest in every_text(program.letters, longest):
            for name in program.registers:
                if times_written(program, text, rest, name) > 1:
                    return text, rest, name
    return None


class Plain(unittest.TestCase):
    def test_rows_of_a_step_are_taken_together(self):
        self.assertFalse(is_plain(one_step({"x": (("x",), ("x",))}, {})))
        self.assertFalse(is_plain(one_step({"x": (("y",),)}, {})))
        self.assertTrue(is_plain(one_step({"x": (("y",),), "y": ()}, {})))
        self.assertTrue(is_plain(one_step({"x": (("y",),), "y": (("x",),)}, {})))
        self.assertFalse(is_plain(one_step({"y": (("x",), "a")}, {})))

    def test_rows_of_an_end(self):
        self.assertFalse(is_plain(one_step({}, {0: (("x",), "a", ("x",))})))
        self.assertTrue(is_plain(one_step({}, {0: (("x",), "a", ("y",))})))
        ends = {0: (("x",),), 1: (("x",),)}
        self.assertTrue(is_plain(Program("a", 2, ["x"], {}, {(0, "a"): (1, {}), (1, "a"): (0, {})}, ends)))

    def test_states_that_no_text_leads_to_count(self):
        steps = {(0, "a"): (0, {}), (1, "a"): (0, {"x": (("x",), ("x",))})}
        self.assertFalse(is_plain(Program("a", 2, ["x"], {}, steps, {})))
        steps = {(0, "a"): (0, {}), (1, "a"): (0, {})}
        self.assertFalse(is_plain(Program("a", 2, ["x"], {}, steps, {1: (("x",), ("x",))})))

    def test_it_is_a_boolean(self):
        self.assertIs(is_plain(echo()), True)
        self.assertIs(is_plain(doubling()), False)

    def test_no_program(self):
        for wrong in (None, "a", Program, judge_thrifty(echo())):
            with self.assertRaises(BadProgram) as caught:
                is_plain(wrong)
            self.assertIsNone(caught.exception.part)


class Judged(unittest.TestCase):
    def test_against_following_all_short_texts(self):
        kinds = {True: 0, False: 0}
        for program in some_programs():
            found = judge_thrifty(program)
            kinds[bool(found)] += 1
            self.assertTrue(found.shows(program))
            if found:
                self.assertIsInstance(found, Thrifty)
                self.assertIsNone(first_twice(program, 3))
            else:
                self.assertIsInstance(found, Twice)
                self.assertGreater(times_written(program, found.text, found.rest, found.name), 1)
        self.assertGreater(kinds[True], 50)
        self.assertGreater(kinds[False], 50)

    def test_plain_programs_are_thrifty(self):
        for number in range(80):
            program = counted(number, "ab", 3)
            self.assertTrue(is_plain(program))
            self.assertTrue(judge_thrifty(program))

    def test_copies_that_are_thrown_away(self):
        self.assertFalse(is_plain(copying()))
        self.assertEqual(judge_thrifty(copying()), Thrifty([(0, ("x",)), (0, ("y",))]))

    def test_a_register_that_holds_the_empty_text_is_met_too(self):
        found = judge_thrifty(one_step({}, {0: (("x",), ("x",))}))
        self.assertEqual(found, Twice("", "", "x"))
        self.assertFalse(judge_thrifty(one_step({"x": (("y",), ("y",))}, {0: (("x",),)})))

    def test_states_that_no_text_leads_to_do_not_count(self):
        steps = {(0, "a"): (0, {}), (1, "a"): (0, {"x": (("x",), ("x",))})}
        program = Program("a", 2, ["x"], {}, steps, {0: (("x",),), 1: (("x",), ("x",))})
        self.assertEqual(judge_thrifty(program), Thrifty([(0, ("x",))]))

    def test_states_without_an_end_ahead_of_them_do_not_count(self):
        steps = {(0, "a"): (1, {"x": (("x",), ("x",))}), (1, "a"): (1, {"x": (("x",), ("x",))})}
        self.assertEqual(judge_thrifty(Program("a", 2, ["x"], {}, steps, {0: (("x",),)})), Thrifty([(0, ("x",))]))
        self.assertEqual(judge_thrifty(Program("a", 2, ["x"], {}, steps, {})), Thrifty([]))

    def test_what_is_read_first_is_told(self):
        steps = {(0, "a"): (1, {}), (0, "b"): (0, {}), (1, "a"): (1, {}), (1, "b"): (2, {"x": (("y",), ("y",))}),
                 (2, "a"): (2, {}), (2, "b"): (3, {}), (3, "a"): (3, {}), (3, "b"): (3, {})}
        found = judge_thrifty(Program("ab", 4, ["x", "y"], {}, steps, {3: (("x",),)}))
        self.assertEqual((found.name, found.text[-1:], found.rest[0]), ("y", "a", "b"))

    def test_copies_that_come_together_later(self):
        steps = {(0, "a"): (1, {"y": (("x",),)}), (1, "a"): (2, {}), (2, "a"): (0, {"x": (("x",), ("y",))})}
        program = Program("a", 3, ["x", "y"], {}, steps, {0: (("x",),)})
        found = judge_thrifty(program)
        self.assertFalse(found)
        self.assertTrue(found.shows(program))

    def test_no_register_and_sixty(self):
        self.assertEqual(judge_thrifty(Program("a", 1, [], {}, {(0, "a"): (0, {})}, {0: ("a",)})), Thrifty([(0, ())]))
        names = [word_of(number) for number in range(60)]
        turned = {name: ((names[(number + 1) % 60],),) for number, name in enumerate(names)}
        program = Program("a", 1, names, {}, {(0, "a"): (0, turned)}, {0: tuple((name,) for name in names[:3])})
        self.assertEqual(len(judge_thrifty(program).lives), 60)
        self.assertTrue(judge_thrifty(program).shows(program))

    def test_many_states(self):
        found = judge_thrifty(echo("ab", 300))
        self.assertEqual(found.lives, [(state, ("x",)) for state in range(300)])
        self.assertTrue(found.shows(echo("ab", 300)))

    def test_no_program(self):
        for asked in (judge_thrifty, Thrifty([]).shows, Twice("", "", "x").shows):
            for wrong in (None, 0, "a", [], Program):
                with self.assertRaises(BadProgram) as caught:
                    asked(wrong)
                self.assertIsNone(caught.exception.part)

    def test_asked_again(self):
        for program in some_programs()[::9]:
            self.assertEqual(judge_thrifty(program), judge_thrifty(program))
            self.assertIsNot(judge_thrifty(program), judge_thrifty(program))


class ThriftyShown(unittest.TestCase):
    def test_more_pairs_than_needed(self):
        program = echo("ab", 2)
        self.assertTrue(Thrifty([(1, ("x",)), (0, ("x",)), (0, ()), (1, ())]).shows(program))
        self.assertFalse(Thrifty([(1, ("x",)), (0, ("x",)), (0, ())]).shows(program))

    def test_too_few_pairs(self):
        program = echo("ab", 3)
        lives = judge_thrifty(program).lives
        for number in range(3):
            self.assertFalse(Thrifty(lives[:number] + lives[number + 1:]).shows(program))
        self.assertFalse(Thrifty([]).shows(program))

    def test_a_step_that_is_not_closed(self):
        self.assertFalse(Thrifty([(0, ("x",))]).shows(copying()))
        self.assertFalse(Thrifty([(0, ("x",)), (0, ("x", "y"))]).shows(copying()))

    def test_programs_that_are_not_thrifty(self):
        for lives in ([], [(0, ("x",))], [(0, ()), (0, ("x",))]):
            self.assertFalse(Thrifty(lives).shows(doubling()))
        self.assertFalse(Thrifty([(0, ("x",))]).shows(one_step({}, {0: (("x",), ("x",))})))

    def test_unreached_states_do_not_matter(self):
        steps = {(0, "a"): (0, {}), (1, "a"): (0, {"x": (("x",), ("x",))})}
        program = Program("a", 2, ["x"], {}, steps, {0: (("x",),), 1: (("x",), ("x",))})
        self.assertTrue(Thrifty([(0, ("x",))]).shows(program))
        self.assertTrue(Thrifty([(0, ("x",)), (1, ("x",))]).shows(program))

    def test_pairs_that_are_none(self):
        lives = [(0, ("x",))]
        self.assertTrue(Thrifty(lives).shows(echo()))
        for wrong in ((0,), (), (0, ("x",), 0), (1, ("x",)), (-1, ()), (10 ** 40, ()), (0, ("y",)), (0, ("x", "x")),
                      (0, ("",)), (0, ("X",)), (0, ("x", "y"))):
            self.assertFalse(Thrifty(lives + [wrong]).shows(echo()), wrong)
        two = one_step({}, {0: (("x",), ("y",))})
        self.assertTrue(Thrifty([(0, ("x", "y"))]).shows(two))
        self.assertFalse(Thrifty([(0, ("x", "y")), (0, ("y", "x"))]).shows(two))
        self.assertFalse(Thrifty([(0, ("y", "x"))]).shows(two))

    def test_large_and_wrong(self):
        many = [(number % 3, ("x",) * (number % 50)) for number in range(50000)]
        self.assertFalse(Thrifty(many).shows(echo("ab", 3)))
        self.assertTrue(Thrifty([(0, ("x",)), (0, ())] * 20000).shows(echo()))
        self.assertFalse(Thrifty([(0, ("x",)), (10 ** 300, ("x",))]).shows(echo()))
        self.assertFalse(Thrifty([(0, ("x",)), (0, ("x" * 100000,))]).shows(echo()))

    def test_changed_attributes(self):
        found = judge_thrifty(echo())
        found.lives = []
        self.assertFalse(found.shows(echo()))
        found.lives = [(0, ("x",))]
        self.assertTrue(found.shows(echo()))
        found.lives.append((0, ("y",)))
        self.assertFalse(found.shows(echo()))

    def test_lists_for_tuples(self):
        found = Thrifty(((0, ("x",)),))
        self.assertEqual(found.lives, [(0, ("x",))])
        found.lives = ([0, ["x"]],)
        self.assertTrue(found.shows(echo()))
        self.assertEqual(found, judge_thrifty(echo()))
        self.assertEqual(Thrifty([[0, ["x"]]]), judge_thrifty(echo()))


class TwiceShown(unittest.TestCase):
    def test_any_such_text(self):
        program = doubling()
        for text, rest in (("", "a"), ("ab", "a"), ("", "bab"), ("b" * 500, "a" * 500)):
            self.assertTrue(Twice(text, rest, "x").shows(program), (text, rest))

    def test_wrong_ones(self):
        program = doubling()
        for text, rest, name in (("", "", "x"), ("a", "", "x"), ("a", "b", "x"), ("", "a", "y"), ("", "a", ""),
                                 ("c", "a", "x"), ("", "ac", "x"), ("", "A", "x"), ("", "a", "X"),
                                 ("a" * 100000, "b", "x"), ("", "a" * 1000 + "c", "x"), ("", "a", "x" * 10000)):
            self.assertFalse(Twice(text, rest, name).shows(program), (text[:9], rest[:9], name[:9]))

    def test_the_rest_has_to_lead_to_an_end(self):
        steps = {(0, "a"): (1, {"x": (("x",), ("x",))}), (1, "a"): (1, {})}
        program = Program("a", 2, ["x"], {}, steps, {1: (("x",),)})
        self.assertTrue(Twice("", "aa", "x").shows(program))
        self.assertFalse(Twice("a", "a", "x").shows(program))
        self.assertFalse(Twice("", "a", "x").shows(Program("a", 2, ["x"], {}, steps, {0: (("x",),)})))

    def test_copies_that_are_thrown_away(self):
        for text in every_text("ab", 3):
            for rest in every_text("ab", 3):
                self.assertFalse(Twice(text, rest, "x").shows(copying()))

    def test_against_following(self):
        for program in some_programs()[::13]:
            for text in every_text("ab", 2):
                for rest in every_text("ab", 3):
                    for name in "xy":
                        self.assertEqual(Twice(text, rest, name).shows(program),
                                         times_written(program, text, rest, name) > 1)

    def test_very_many_times(self):
        self.assertTrue(Twice("b", "a" * 20000, "x").shows(doubling()))

    def test_changed_attributes(self):
        found = judge_thrifty(doubling())
        self.assertTrue(found.shows(doubling()))
        found.rest = "b"
        self.assertFalse(found.shows(doubling()))
        found.rest = "ba"
        self.assertTrue(found.shows(doubling()))
        found.name = "y"
        self.assertFalse(found.shows(doubling()))


class Evidence(unittest.TestCase):
    def test_bool(self):
        self.assertIs(bool(Thrifty([])), True)
        self.assertIs(bool(Twice("", "", "x")), False)

    def test_equal(self):
        self.assertEqual(Thrifty([(0, ("x",))]), Thrifty([(0, ("x",))]))
        self.assertNotEqual(Thrifty([(0, ("x",))]), Thrifty([(0, ())]))
        self.assertNotEqual(Thrifty([(0, ())]), Thrifty([(0, ()), (0, ())]))
        self.assertEqual(Twice("a", "b", "x"), Twice("a", "b", "x"))
        for other in (Twice("b", "b", "x"), Twice("a", "a", "x"), Twice("a", "b", "y")):
            self.assertNotEqual(Twice("a", "b", "x"), other)
        self.assertNotEqual(Thrifty([]), Twice("", "", ""))
        self.assertNotEqual(Thrifty([]), [])
        self.assertNotEqual(Twice("a", "b", "x"), ("a", "b", "x"))

    def test_copied(self):
        names = ["x"]
        lives = [[0, names]]
        found = Thrifty(lives)
        names.append("y")
        lives[0][0] = 5
        lives.append((1, ()))
        self.assertEqual(found.lives, [(0, ("x",))])

    def test_returned_lists_are_new(self):
        program = echo()
        judge_thrifty(program).lives.append((0, ()))
        self.assertEqual(judge_thrifty(program).lives, [(0, ("x",))])

    def test_asking_changes_nothing(self):
        program = copying()
        found = judge_thrifty(program)
        found.shows(program)
        is_plain(program)
        self.assertEqual(program, copying())
        self.assertEqual(found, judge_thrifty(copying()))

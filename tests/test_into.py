"""Point [21]: whether a program writes texts of a set for all texts of another one, and for which texts it does."""

import itertools
import unittest

from passtexts.errors import BadProgram, BadSet, TooLarge, Unlike
from passtexts.programs import Program
from passtexts.sets import FallsOut, Into, TextSet, both, domain, judge_into, least, texts_into, without
from tests.helpers import COPY_MOVES, PLAIN_MOVES, counted, doubling, echo, ending, every_text
from tests.test_sets import ends_in, multiples, some_set

EVERY = TextSet("ab", [{"a": 0, "b": 0}], [0])
NONE = TextSet("ab", [{"a": 0, "b": 0}], [])


def goes_into(program, goal, text):
    """Whether something is written for the text that is in the set."""
    written = program(text)
    return written is not None and written in goal


def some_asked(many):
    """Programs, some not thrifty, with sets."""
    for number in range(many):
        program = counted(number, "ab", 1 + number % 3, PLAIN_MOVES + COPY_MOVES)
        goal = some_set(number * 7 + 1, ("ab", "ab", "abc", "a")[number % 4], 3)
        yield program, some_set(number * 5 + 3, "ab", 4), goal


def map_of(goal, text):
    """To which state each state of a set is led by a text."""
    if any(sign not in goal.letters for sign in text):
        return (-1,) * len(goal)
    return tuple(goal.after(text, state) for state in range(len(goal)))


def triple_of(program, source, goal, text):
    state, held = program.after(text)
    return state, source.after(text), tuple(map_of(goal, held[name]) for name in program.registers)


def exchanging():
    """Writes b for a, and a for b, behind and ahead of what it has."""
    steps = {(0, "a"): (0, {"x": (("x",), "b")}), (0, "b"): (0, {"x": ("a", ("x",))})}
    return Program("ab", 1, ["x"], {}, steps, {0: (("x",),)})


class Judged(unittest.TestCase):
    def test_against_all_short_texts(self):
        kinds = {True: 0, False: 0}
        for program, source, goal in some_asked(260):
            try:
                told = [source, both(source, texts_into(program, goal))]
            except TooLarge:
                told = [source]
            for texts in told:
                found = judge_into(program, texts, goal)
                kinds[bool(found)] += 1
                self.assertTrue(found.shows(program, texts, goal))
                text = next((text for text in every_text("ab", 5)
                             if text in texts and not goes_into(program, goal, text)), None)
                if found:
                    self.assertIsInstance(found, Into)
                    self.assertIsNone(text)
                else:
                    self.assertIsInstance(found, FallsOut)
                    self.assertTrue(found.text == text or text is None and len(found.text) > 5)
        self.assertGreater(min(kinds.values()), 80)

    def test_standings_are_what_texts_lead_to(self):
        for program, source, goal in some_asked(60):
            found = judge_into(program, both(source, NONE), goal)
            self.assertTrue(found)
            some = {triple_of(program, both(source, NONE), goal, text) for text in every_text("ab", 5)}
            self.assertTrue(all(standing in found.standings for standing in some))
            self.assertEqual(len(set(found.standings)), len(found.standings))

    def test_what_is_written_has_to_be_in_the_set(self):
        self.assertTrue(judge_into(exchanging(), multiples(3), multiples(3, "ab", "b")))
        self.assertEqual(judge_into(exchanging(), multiples(3), multiples(3)), FallsOut("b"))
        self.assertEqual(judge_into(exchanging(), multiples(2), multiples(4, "ab", "b")), FallsOut("aa"))
        self.assertTrue(judge_into(exchanging(), multiples(4), multiples(2, "ab", "b")))
        self.assertEqual(judge_into(echo(), EVERY, ends_in("abab")), FallsOut(""))
        self.assertTrue(judge_into(echo(), ends_in("babab"), ends_in("abab")))
        self.assertEqual(judge_into(echo(), ends_in("abab"), ends_in("babab")), FallsOut("abab"))

    def test_texts_that_are_not_in_the_source_do_not_count(self):
        self.assertEqual(judge_into(ending(echo(), {}), NONE, NONE), Into([(0, 0, ((0,),))]))
        self.assertEqual(judge_into(ending(echo(), {}), EVERY, EVERY), FallsOut(""))
        some = ending(echo("ab", 2), {0: (("x",),)})
        self.assertTrue(judge_into(some, domain(some), EVERY))
        self.assertEqual(judge_into(some, EVERY, EVERY), FallsOut("a"))
        self.assertEqual(judge_into(some, ends_in("aba"), EVERY), FallsOut("aba"))

    def test_signs_that_the_goal_does_not_have(self):
        steps = {(0, "a"): (0, {"x": (("x",), "c")}), (0, "b"): (0, {"x": ()})}
        program = Program("ab", 1, ["x"], {}, steps, {0: (("x",),)})
        self.assertEqual(judge_into(program, EVERY, EVERY), FallsOut("a"))
        self.assertTrue(judge_into(program, ends_in("b"), EVERY))
        self.assertEqual(judge_into(program, ends_in("b"), EVERY).standings,
                         [(0, 0, ((0,),)), (0, 0, ((-1,),)), (0, 1, ((0,),))])
        self.assertEqual(judge_into(ending(program, {0: ("c",)}), ends_in("b"), EVERY), FallsOut("b"))
        self.assertTrue(judge_into(program, EVERY, TextSet("cd", [{"c": 0, "d": 0}], [0])))
        first = Program("ab", 1, ["x"], {"x": "c"}, {(0, letter): (0, {"x": (letter,)}) for letter in "ab"}, {0: (("x",),)})
        self.assertEqual(judge_into(first, EVERY, EVERY), FallsOut(""))
        self.assertTrue(judge_into(first, without(EVERY, least(TextSet("ab", [{"a": 1, "b": 1}] * 2, [0]))), EVERY))
        self.assertEqual(judge_into(ending(echo(), {0: ("c", ("x",))}), EVERY, EVERY), FallsOut(""))

    def test_the_first_text(self):
        for word in ("a", "ba", "bbab", "abaab"):
            self.assertEqual(judge_into(echo(), EVERY, without(EVERY, ends_in(word))), FallsOut(word))
        self.assertEqual(judge_into(echo(), EVERY, without(EVERY, multiples(60, "ab", "b", 59))), FallsOut("b" * 59))

    def test_texts_read_the_other_way_round(self):
        steps = {(0, letter): (0, {"x": (letter, ("x",))}) for letter in "ab"}
        turned = Program("ab", 1, ["x"], {}, steps, {0: (("x",),)})
        found = texts_into(turned, ends_in("aab"))
        for text in every_text("ab", 7):
            self.assertEqual(text in found, text.startswith("baa"))
        self.assertTrue(judge_into(turned, found, ends_in("aab")))
        self.assertTrue(judge_into(turned, without(EVERY, found), without(EVERY, ends_in("aab"))))

    def test_programs_that_are_not_thrifty(self):
        found = texts_into(doubling(), multiples(3, "ab", "a", 2))
        for text in every_text("ab", 6):
            self.assertEqual(text in found, 2 ** text.count("a") % 3 == 2)
        self.assertEqual(judge_into(doubling(), EVERY, multiples(3, "ab", "a", 2)), FallsOut(""))
        self.assertTrue(judge_into(doubling(), multiples(2, "ab", "a", 1), multiples(3, "ab", "a", 2)))

    def test_no_registers(self):
        constant = Program("ab", 1, [], {}, {(0, letter): (0, {}) for letter in "ab"}, {0: ("ba",)})
        self.assertEqual(judge_into(constant, EVERY, ends_in("a")), Into([(0, 0, ())]))
        self.assertEqual(judge_into(constant, EVERY, ends_in("b")), FallsOut(""))

    def test_far_texts(self):
        source, goal = multiples(6), multiples(3, "ab", "b")
        found = judge_into(exchanging(), source, goal)
        self.assertTrue(found)
        told = {standing: True for standing in found.standings}
        for text in ("ab" * 300, "aab" * 100, "bbbba" * 60):
            self.assertIn(triple_of(exchanging(), source, goal, text), told)
            self.assertEqual(text in texts_into(exchanging(), goal), exchanging()(text) in goal)

    def test_texts_into(self):
        for program, _, goal in some_asked(200):
            try:
                found = texts_into(program, goal)
            except TooLarge:
                continue
            self.assertEqual(least(found), found)
            self.assertEqual(found.letters, program.letters)
            for text in every_text("ab", 5):
                self.assertEqual(text in found, goes_into(program, goal, text))

    def test_asked_again_new_and_unchanged(self):
        for program, source, goal in list(some_asked(60))[::7]:
            told = [Program(program.letters, program.states, program.registers, program.firsts, program.steps,
                            program.ends), TextSet(source.letters, source.steps, source.ends),
                    TextSet(goal.letters, goal.steps, goal.ends)]
            one, other = judge_into(program, source, goal), judge_into(program, source, goal)
            self.assertEqual(one, other)
            if one:
                self.assertIsNot(one.standings, other.standings)
            one.shows(program, source, goal)
            self.assertEqual([program, source, goal], told)
        goal = multiples(2)
        found = texts_into(echo(), goal)
        self.assertEqual(found, goal)
        found.steps[0]["a"] = 0
        found.ends.clear()
        self.assertEqual((goal, texts_into(echo(), goal)), (multiples(2), multiples(2)))


class Large(unittest.TestCase):
    def counts(self, many, other):
        """A program with a state modulo a number, and a goal that counts modulo another one."""
        steps = {(state, letter): ((state + 1) % many if letter == "a" else state,
                                   {"x": (("x",), "b")} if letter == "b" else {}) for state in range(many)
                 for letter in "ab"}
        program = Program("ab", many, ["x"], {}, steps, {state: (("x",),) for state in range(many)})
        return program, multiples(other, "ab", "b")

    def test_at_most_4000_standings(self):
        for many, other, source, large in ((100, 40, EVERY, False), (101, 40, EVERY, True), (80, 50, EVERY, False),
                                           (50, 40, multiples(2), False), (40, 25, multiples(5), False),
                                           (25, 40, multiples(4), False), (20, 40, multiples(7), True)):
            program, goal = self.counts(many, other)
            if large:
                with self.assertRaises(TooLarge):
                    judge_into(program, source, goal)
            else:
                self.assertEqual(judge_into(program, source, goal), FallsOut("b"))

    def test_too_large_also_where_a_first_text_falls_out(self):
        program, goal = self.counts(101, 40)
        with self.assertRaises(TooLarge):
            judge_into(ending(program, {}), EVERY, goal)
        program, goal = self.counts(100, 40)
        self.assertEqual(judge_into(ending(program, {}), EVERY, goal), FallsOut(""))

    def test_exactly_4000(self):
        program, goal = self.counts(100, 40)
        found = judge_into(program, both(EVERY, NONE), goal)
        self.assertEqual(len(found.standings), 4000)
        self.assertTrue(found.shows(program, NONE, goal))

    def test_one_more_than_4000(self):
        # some first states, and then a ring of 125 states beside one of 32
        goal = multiples(32, "a")
        for first, large in ((0, False), (1, True)):
            steps = {(state, "a"): (state + 1 if state < first + 124 else first, {"x": (("x",), "a")})
                     for state in range(first + 125)}
            program = Program("a", first + 125, ["x"], {}, steps, {state: () for state in range(first + 125)})
            every, none = TextSet("a", [{"a": 0}], [0]), TextSet("a", [{"a": 0}], [])
            if large:
                with self.assertRaises(TooLarge):
                    judge_into(program, none, goal)
                with self.assertRaises(TooLarge):
                    texts_into(program, goal)
            else:
                self.assertEqual(len(judge_into(program, none, goal).standings), 4000)
                self.assertEqual(texts_into(program, goal), every)

    def test_texts_into(self):
        program, goal = self.counts(100, 40)
        self.assertEqual(texts_into(program, goal), goal)
        program, goal = self.counts(101, 40)
        with self.assertRaises(TooLarge):
            texts_into(program, goal)
        program, goal = self.counts(8, 8)
        program = ending(program, {0: (("x",),)})
        with self.assertRaises(TooLarge):
            texts_into(program, goal)
        program, goal = self.counts(6, 10)
        self.assertEqual(len(texts_into(ending(program, {0: (("x",),)}), goal)), 60)

    def test_shows_is_not_refused(self):
        program, goal = self.counts(101, 40)
        self.assertTrue(FallsOut("b").shows(program, EVERY, goal))
        self.assertFalse(Into([]).shows(program, EVERY, goal))


class IntoShown(unittest.TestCase):
    def setUp(self):
        self.program = exchanging()
        self.source, self.goal = multiples(4), multiples(2, "ab", "b")
        self.found = judge_into(self.program, self.source, self.goal)

    def shown(self, standings):
        return Into(standings).shows(self.program, self.source, self.goal)

    def test_as_found(self):
        self.assertEqual(self.found.standings, [(0, state, ((state % 2, 1 - state % 2),)) for state in range(4)])
        self.assertTrue(self.shown(self.found.standings))
        self.assertTrue(self.shown(self.found.standings[::-1]))
        self.assertTrue(self.shown(self.found.standings * 2))
        self.assertTrue(self.shown(tuple(self.found.standings)))
        self.assertTrue(self.shown([[state, other, [list(told) for told in maps]]
                                    for state, other, maps in self.found.standings]))

    def test_missing_ones(self):
        for left in range(4):
            self.assertFalse(self.shown(self.found.standings[:left] + self.found.standings[left + 1:]))
        self.assertFalse(self.shown([]))

    def test_the_start_has_to_be_there(self):
        source = TextSet("ab", [{"a": 1, "b": 1}, {"a": 1, "b": 1}], [1])
        found = judge_into(echo(), source, EVERY)
        self.assertEqual(len(found.standings), 2)
        self.assertFalse(Into(found.standings[1:]).shows(echo(), source, EVERY))

    def test_more_of_them_have_to_lead_on_and_to_fit(self):
        more = [(0, state, ((1 - state % 2, state % 2),)) for state in range(4)]
        self.assertFalse(self.shown(self.found.standings + more[:1]))
        self.assertFalse(self.shown(self.found.standings + more))
        self.assertFalse(self.shown(more))
        source = TextSet("ab", self.source.steps, [])
        self.assertTrue(Into(self.found.standings + more).shows(self.program, source, self.goal))
        self.assertFalse(Into(self.found.standings + more[1:]).shows(self.program, source, self.goal))

    def test_what_is_no_standing(self):
        for wrong in ((), (0,), (0, 0), (0, 0, ((0, 1),), 0), (1, 0, ((0, 1),)), (1, 1, ((0, 1),)),
                      (-1, 0, ((0, 1),)), (-1, 1, ((0, 1),)), (0, 4, ((0, 1),)),
                      (0, -1, ((0, 1),)), (0, 0, ()), (0, 0, ((0, 1), (0, 1))), (0, 0, ((0,),)), (0, 0, ((0, 1, 0),)),
                      (0, 0, ((0, 2),)), (0, 0, ((-1, 0),)), (0, 0, ((0, -1),)), (0, 0, ((-2, -2),)),
                      (0, 0, ((10 ** 30, 0),)), (10 ** 30, 0, ((0, 1),)), (0, 0, (0, 1)), (0, 0, 0), 0, None, "ab",
                      (0, 0, (("a", "b"),)), (True, 0, ((0, 1),)), (0, 0, ((False, True),))):
            self.assertFalse(self.shown(self.found.standings + [wrong]), wrong)
            self.assertFalse(self.shown([wrong] + self.found.standings))

    def test_large_and_wrong(self):
        many = [(0, state % 4, ((state % 2, state // 2 % 2),)) for state in range(20000)]
        self.assertFalse(self.shown(many + self.found.standings))
        self.assertFalse(self.shown([(number, 0, ((0, 1),)) for number in range(20000)]))

    def test_it_has_to_write_into_the_goal(self):
        source = multiples(3)
        for made in (self.program, ending(self.program, {})):
            standings = judge_into(made, both(source, NONE), self.goal).standings
            around = judge_into(made, TextSet("ab", source.steps, []), self.goal).standings
            self.assertFalse(Into(around).shows(made, source, self.goal))
            self.assertTrue(Into(standings).shows(made, NONE, self.goal))

    def test_changed_attributes(self):
        self.found.standings[0] = (0, 0, ((1, 0),))
        self.assertFalse(self.found.shows(self.program, self.source, self.goal))
        self.found.standings[0] = [0, 0, [[0, 1]]]
        self.assertTrue(self.found.shows(self.program, self.source, self.goal))
        self.assertEqual(self.found, judge_into(self.program, self.source, self.goal))
        self.found.standings = ()
        self.assertFalse(self.found.shows(self.program, self.source, self.goal))


class FallsOutShown(unittest.TestCase):
    def test_takes_any_such_text(self):
        for program, source, goal in list(some_asked(120))[::5]:
            for text in every_text("ab", 4):
                self.assertEqual(FallsOut(text).shows(program, source, goal),
                                 text in source and not goes_into(program, goal, text))

    def test_texts_that_are_none(self):
        self.assertTrue(FallsOut("ab").shows(echo(), EVERY, NONE))
        for wrong in ("c", "abc", "A", " ", "a\n", "\u00e9", "a" * 1000 + "c"):
            self.assertFalse(FallsOut(wrong).shows(echo(), EVERY, NONE))

    def test_far_texts(self):
        self.assertTrue(FallsOut("a" * 701).shows(echo(), EVERY, multiples(7)))
        self.assertFalse(FallsOut("a" * 700).shows(echo(), EVERY, multiples(7)))
        # what the register holds would have far more signs than can be written
        self.assertTrue(FallsOut("a" * 400).shows(doubling(), EVERY, multiples(3, "ab", "a", 2)))
        self.assertFalse(FallsOut("a" * 401).shows(doubling(), EVERY, multiples(3, "ab", "a", 2)))

    def test_changed_attributes(self):
        found = judge_into(echo(), EVERY, multiples(2))
        self.assertEqual(found, FallsOut("a"))
        found.text = "aa"
        self.assertFalse(found.shows(echo(), EVERY, multiples(2)))
        found.text = "baa" * 7
        self.assertFalse(found.shows(echo(), EVERY, multiples(2)))
        found.text = "bab"
        self.assertTrue(found.shows(echo(), EVERY, multiples(2)))


class Evidence(unittest.TestCase):
    def test_bool(self):
        self.assertIs(bool(Into([])), True)
        self.assertIs(bool(FallsOut("")), False)

    def test_equal(self):
        self.assertEqual(Into([(0, 0, ((0,),))]), Into(([0, 0, [[0]]],)))
        for other in (Into([]), Into([(0, 0, ((1,),))]), Into([(0, 0, ((0,),))] * 2), FallsOut(""), None):
            self.assertNotEqual(Into([(0, 0, ((0,),))]), other)
        self.assertEqual(FallsOut("a"), FallsOut("a"))
        for other in (FallsOut(""), Into([]), "a"):
            self.assertNotEqual(FallsOut("a"), other)

    def test_copied(self):
        maps = [[0, 1]]
        standing = [0, 0, maps]
        standings = [standing]
        found = Into(standings)
        maps[0][0] = 1
        standing.append(1)
        standings.clear()
        self.assertEqual(found, Into([(0, 0, ((0, 1),))]))


class Refused(unittest.TestCase):
    def test_which_error_comes_first(self):
        three = multiples(2, "abc")
        for asked in (judge_into, Into([]).shows, FallsOut("").shows, FallsOut("!").shows):
            for program in (None, "ab", EVERY):
                for source, goal in itertools.product((None, EVERY, three), repeat=2):
                    with self.assertRaises(BadProgram) as caught:
                        asked(program, source, goal)
                    self.assertIsNone(caught.exception.part)
            for source, goal in ((None, EVERY), (EVERY, None), (three, "ab"), (echo(), EVERY), (EVERY, 1), (None, None)):
                with self.assertRaises(BadSet) as caught:
                    asked(echo(), source, goal)
                self.assertIsNone(caught.exception.part)
            with self.assertRaises(Unlike) as caught:
                asked(echo(), three, EVERY)
            self.assertEqual(caught.exception.what, "letters")
        self.assertFalse(judge_into(echo(), EVERY, multiples(2, "bcd", "b")))
        large, goal = Large().counts(101, 40)
        with self.assertRaises(Unlike):
            judge_into(large, three, goal)

    def test_texts_into(self):
        for program, goal in ((None, None), (1, EVERY), (EVERY, EVERY)):
            with self.assertRaises(BadProgram) as caught:
                texts_into(program, goal)
            self.assertIsNone(caught.exception.part)
        for goal in (None, "ab", echo()):
            with self.assertRaises(BadSet) as caught:
                texts_into(echo(), goal)
            self.assertIsNone(caught.exception.part)

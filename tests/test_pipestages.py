"""Points [31] and [32]: which stages of a pipe are needed, in which orders, and which texts are refused where."""

import itertools
import unittest
from unittest import mock

from passtexts.alike import Differ, Same, write_same
from passtexts.compiling import compiled
from passtexts.errors import BadNumber, BadPipe, BadSet, TooLarge, Unlike
from passtexts.making import kept, respelled
from passtexts.pipes import (Pipe, fused, idle_stages, judge_pipes, judge_stages, judge_swap, leaned, needless_stages, orders,
                             refused_sets)
from passtexts.programs import Program
from passtexts.scripts import read_script
from passtexts.sets import FallsOut, Into, TextSet, domain, judge_into, least, texts_into
from tests.helpers import copying, echo, ending, every_text, shares
from tests.pipes_made import (ADDING, AROUND, FEW, LAST, SHORT, by_stages, first_apart, fitting, refusing_texts, some_stages)
from tests.test_behind import every_other, exchanging, halves, leaving_out, turning
from tests.test_sets import multiples, some_set

ABC = echo("abc")
TO_C = respelled(echo("ab"), {"b": "c"})
FROM_C = respelled(echo("abc"), {"c": "b"})
EVERY = TextSet("ab", [{"a": 0, "b": 0}], [0])


def is_such(stages, pipe):
    """Whether these are a pipe that reads the same letters, and writes the same for all texts."""
    if not fitting(stages) or stages[0].letters != pipe.stages[0].letters:
        return False
    return write_same(fused(Pipe(stages)), fused(pipe))


def without(stages, number):
    return stages[:number] + stages[number + 1:]


def written_by(stages):
    return lambda text: by_stages(stages, text)[-1]


def differing_text(one, other):
    """A text for which stages write something else than other ones, None without one; it may be long."""
    text = first_apart(written_by(one), written_by(other), 5)
    if text is not None:
        return text
    found = judge_pipes(Pipe(one), Pipe(other))
    if found:
        return None
    assert written_by(one)(found.text) != written_by(other)(found.text)
    return found.text


def some(step):
    for number, stages in enumerate(some_stages()):
        if number % step == 0:
            yield stages


class Needless(unittest.TestCase):
    def test_made_ones(self):
        kinds = {True: 0, False: 0}
        for stages in some(1):
            found = needless_stages(Pipe(stages))
            self.assertEqual(found, [number for number in range(len(stages)) if is_such(without(stages, number), Pipe(stages))])
            for number in range(len(stages)):
                left = without(stages, number)
                kinds[number in found] += 1
                if number in found:
                    self.assertIsNone(first_apart(written_by(left), written_by(stages), 5))
                elif fitting(left) and left[0].letters == stages[0].letters:
                    self.assertIsNotNone(differing_text(left, stages))
        self.assertGreater(min(kinds.values()), 80, kinds)

    def test_what_is_known(self):
        for stages, numbers in (
                ([echo()], []), ([echo(), echo()], [0, 1]), ([turning(), echo(), turning()], [1]), ([turning(), turning()], []),
                ([leaving_out("a"), leaving_out("a")], [0, 1]), ([leaving_out("a"), ADDING, leaving_out("a")], [0, 1]),
                ([FEW, turning(), FEW], [0, 2]), ([exchanging(), FEW, FEW, echo()], [1, 2, 3]), ([SHORT, FEW], []),
                ([kept(echo(), multiples(2)), leaving_out("b"), kept(echo(), multiples(4))], [0])):
            self.assertEqual(needless_stages(Pipe(stages)), numbers)

    def test_a_refusing_stage_is_needed(self):
        self.assertEqual(needless_stages(Pipe([echo(), FEW])), [0])
        self.assertEqual(needless_stages(Pipe([LAST, leaving_out("a"), echo()])), [2])

    def test_the_rest_has_to_fit(self):
        # without the stage between, a sign comes that is not read
        self.assertEqual(needless_stages(Pipe([TO_C, FROM_C, echo()])), [2])
        self.assertEqual(needless_stages(Pipe([TO_C, ABC, FROM_C])), [1])
        self.assertEqual(needless_stages(Pipe([echo("a"), TO_C])), [1])
        self.assertEqual(needless_stages(Pipe([echo(), TO_C, FROM_C])), [0, 1])
        self.assertEqual(needless_stages(Pipe([echo(), TO_C, ABC])), [0, 2])
        self.assertEqual(needless_stages(Pipe([FROM_C, TO_C])), [])

    def test_the_rest_has_to_read_the_same_letters(self):
        self.assertEqual(needless_stages(Pipe([echo("a"), echo("ab")])), [1])
        self.assertEqual(needless_stages(Pipe([echo("ab"), echo("abc")])), [1])
        self.assertEqual(needless_stages(Pipe([echo("ab"), echo("ba")])), [0, 1])

    def test_what_is_unlike_for_long_texts_alone(self):
        late = compiled(read_script('letters a; counter n 40; text x; on a { n = n + 1; x = x "a"; } end when n < 40: x; end: x "b";'))
        pipe = Pipe([late, leaving_out("b"), echo()])
        self.assertEqual((needless_stages(pipe), leaned(pipe)), ([2], Pipe([late, leaving_out("b")])))
        self.assertEqual(judge_pipes(Pipe([late]), pipe), Differ("a" * 40))
        twice = compiled(read_script('letters ab; counter n 9; text x; on a { n = n + 1; if n = 9 { stop; } x = x "a"; } on b { x = x "b"; } end: x;'))
        self.assertEqual(judge_swap(Pipe([leaving_out("a"), twice]), 0), Differ("a" * 9))
        self.assertEqual(orders(Pipe([leaving_out("a"), twice])), [(0, 1)])
        self.assertEqual(needless_stages(Pipe([twice, turning()])), [])

    def test_a_first_stage_that_is_not_plain(self):
        self.assertEqual(needless_stages(Pipe([copying(), echo()])), [1])
        self.assertEqual(needless_stages(Pipe([AROUND, leaving_out("a")])), [])


def leaned_by_hand(stages):
    """The stages that are left, as the document tells."""
    pipe = Pipe(stages)
    while True:
        many = len(stages)
        for number in range(many - 1, -1, -1):
            if is_such(without(stages, number), pipe):
                stages = without(stages, number)
        if len(stages) == many:
            return stages


class Leaned(unittest.TestCase):
    def test_made_ones(self):
        less = 0
        for stages in some(1):
            found = leaned(Pipe(stages))
            self.assertEqual(found, Pipe(leaned_by_hand(stages)))
            self.assertTrue(judge_pipes(found, Pipe(stages)))
            self.assertEqual(needless_stages(found), [])
            self.assertEqual(leaned(found), found)
            less += len(found) < len(stages)
        self.assertGreater(less, 80)

    def test_from_the_last_to_the_first(self):
        self.assertEqual(leaned(Pipe([FEW, turning(), FEW])).stages, [FEW, turning()])
        self.assertEqual(leaned(Pipe([echo(), kept(turning(), EVERY), echo("ab", 2)])).stages, [kept(turning(), EVERY)])
        self.assertEqual(leaned(Pipe([echo(), echo("ab", 2), echo("ab", 3)])), Pipe([echo()]))

    def test_again_and_again(self):
        # the last stage is needed until the one between is gone, which is asked later
        told = [leaving_out("a"), ADDING, leaving_out("a")]
        self.assertEqual(needless_stages(Pipe(told)), [0, 1])
        self.assertEqual(leaned(Pipe(told)), Pipe([leaving_out("a")]))
        self.assertEqual(leaned(Pipe([exchanging()] + told + [exchanging()])), Pipe([exchanging(), leaving_out("a"), exchanging()]))

    def test_one_stage_stays(self):
        self.assertEqual(leaned(Pipe([echo()])), Pipe([echo()]))
        self.assertEqual(leaned(Pipe([echo()] * 6)), Pipe([echo()]))

    def test_it_is_new(self):
        for pipe in (Pipe([turning(), FEW]), Pipe([echo(), turning()])):
            same = Pipe(pipe.stages)
            found = leaned(pipe)
            self.assertFalse(any(shares(one, other) for one in found.stages for other in pipe.stages))
            found.stages[0].ends.clear()
            found.stages.clear()
            self.assertEqual(pipe, same)


class Idle(unittest.TestCase):
    def test_made_ones(self):
        kinds = {True: 0, False: 0}
        for stages in some(1):
            found = idle_stages(Pipe(stages))
            self.assertEqual(found, sorted(found))
            for number in range(1, len(stages)):
                text = differing_text(stages[:number], stages[:number + 1])
                self.assertEqual(number in found, text is None)
                kinds[number in found] += 1
        self.assertGreater(min(kinds.values()), 80)

    def test_what_is_known(self):
        for stages, numbers in (
                ([echo()], []), ([turning()], []), ([echo()] * 3, [1, 2]), ([leaving_out("a"), leaving_out("a")], [1]),
                ([leaving_out("a"), exchanging()], []), ([FEW, turning(), FEW], [2]), ([leaving_out("a"), FEW], [1]), ([leaving_out("a"), turning()], [1]),
                ([leaving_out("a"), leaving_out("b"), turning(), FEW, echo(), ADDING], [2, 3, 4]), ([turning(), turning()], []),
                ([leaving_out("b"), FEW], []), ([LAST, LAST], [1]), ([SHORT, SHORT, FEW], [1])):
            self.assertEqual(idle_stages(Pipe(stages)), numbers)

    def test_what_is_refused_ahead_does_not_count(self):
        self.assertEqual(idle_stages(Pipe([refusing_texts("b"), exchanging(), leaving_out("b")])), [])
        self.assertEqual(idle_stages(Pipe([refusing_texts("b"), exchanging(), leaving_out("a")])), [2])
        self.assertEqual(idle_stages(Pipe([refusing_texts("b"), leaving_out("b"), turning()])), [1, 2])
        self.assertEqual(idle_stages(Pipe([ending(echo(), {}), turning(), ADDING])), [1, 2])

    def test_what_comes_from_far_texts_counts(self):
        late = compiled(read_script('letters a; counter n 40; text x; on a { n = n + 1; x = x "a"; } end when n < 40: x; end: x "b";'))
        self.assertEqual(idle_stages(Pipe([late, leaving_out("b")])), [])
        self.assertEqual(idle_stages(Pipe([late, echo()])), [1])


class Orders(unittest.TestCase):
    def test_made_ones(self):
        kinds = {True: 0, False: 0}
        for stages in some(3):
            pipe = Pipe(stages)
            found = orders(pipe)
            every = list(itertools.permutations(range(len(stages))))
            self.assertEqual(found, [order for order in every if is_such([stages[number] for number in order], pipe)])
            self.assertEqual(found[0], tuple(range(len(stages))))
            for order in every:
                told = [stages[number] for number in order]
                kinds[order in found] += 1
                if fitting(told) and told[0].letters == stages[0].letters:
                    self.assertEqual(order in found, first_apart(written_by(told), written_by(stages), 6) is None)
        self.assertGreater(min(kinds.values()), 80, kinds)

    def test_what_is_known(self):
        for stages, told in (
                ([turning()], [(0,)]), ([turning(), exchanging()], [(0, 1), (1, 0)]), ([turning(), LAST], [(0, 1)]),
                ([leaving_out("a"), ADDING], [(0, 1)]), ([echo()] * 3, list(itertools.permutations(range(3)))),
                ([echo()] * 4, list(itertools.permutations(range(4)))), ([TO_C, ABC, FROM_C], [(0, 1, 2), (0, 2, 1)]), ([TO_C, FROM_C], [(0, 1)]),
                ([echo("a"), echo("ab")], [(0, 1)]), ([exchanging(), leaving_out("a"), turning()], [(0, 1, 2), (0, 2, 1), (2, 0, 1)])):
            self.assertEqual(orders(Pipe(stages)), told)

    def test_at_most_4_stages(self):
        for many in (5, 6):
            with self.assertRaises(BadNumber):
                orders(Pipe([echo()] * many))

    def test_the_first_one_need_not_be_plain(self):
        self.assertEqual(orders(Pipe([copying(), echo()])), [(0, 1)])

    def test_it_is_new(self):
        pipe = Pipe([echo(), turning()])
        orders(pipe).pop()
        self.assertEqual(orders(pipe), [(0, 1), (1, 0)])
        self.assertEqual(pipe, Pipe([echo(), turning()]))


class Swapped(unittest.TestCase):
    def test_made_ones(self):
        kinds = {Same: 0, Differ: 0, None: 0}
        for stages in some(2):
            pipe = Pipe(stages)
            for number in range(len(stages) - 1):
                swapped = stages[:number] + [stages[number + 1], stages[number]] + stages[number + 2:]
                found = judge_swap(pipe, number)
                if not fitting(swapped) or swapped[0].letters != stages[0].letters:
                    self.assertIsNone(found)
                    kinds[None] += 1
                    continue
                self.assertEqual(found, judge_pipes(pipe, Pipe(swapped)))
                text = first_apart(pipe, Pipe(swapped), 5)
                self.assertTrue(found.text == text if isinstance(found, Differ) else text is None)
                kinds[found.__class__] += 1
        self.assertGreater(min(kinds[Same], kinds[Differ]), 50)
        self.assertGreater(kinds[None], 3)

    def test_what_is_known(self):
        self.assertTrue(judge_swap(Pipe([turning(), exchanging()]), 0))
        self.assertEqual(judge_swap(Pipe([echo(), leaving_out("a"), ADDING]), 1), Differ(""))
        self.assertEqual(judge_swap(Pipe([turning(), LAST]), 0), Differ("ab"))
        self.assertTrue(judge_swap(Pipe([turning(), LAST, leaving_out("a"), ADDING]), 2) == Differ("b"))

    def test_no_pipe_or_other_letters(self):
        self.assertIsNone(judge_swap(Pipe([echo("a"), echo("ab")]), 0))
        self.assertIsNone(judge_swap(Pipe([TO_C, FROM_C]), 0))
        self.assertEqual(judge_swap(Pipe([echo(), TO_C, FROM_C]), 1), Differ("b"))
        self.assertIsNone(judge_swap(Pipe([TO_C, FROM_C, exchanging()]), 1))
        self.assertIsNone(judge_swap(Pipe([copying(), echo()]), 0))
        self.assertTrue(judge_swap(Pipe([TO_C, ABC, FROM_C, echo()]), 0) is None)
        self.assertTrue(judge_swap(Pipe([TO_C, ABC, kept(ABC, TextSet("abc", [dict.fromkeys("abc", 0)], [0])), FROM_C]), 1))

    def test_numbers(self):
        pipe = Pipe([turning(), exchanging(), echo()])
        self.assertTrue(judge_swap(pipe, 0) and judge_swap(pipe, 1))
        for wrong in (-1, 2, 3, "0", None, True, False, 0.0):
            with self.assertRaises(BadNumber):
                judge_swap(pipe, wrong)
        with self.assertRaises(BadNumber):
            judge_swap(Pipe([echo()]), 0)


class RefusedSets(unittest.TestCase):
    def test_made_ones(self):
        many = 0
        for stages in some(1):
            pipe = Pipe(stages)
            found = refused_sets(pipe)
            self.assertEqual(len(found), len(stages))
            for texts in found:
                self.assertIsInstance(texts, TextSet)
                self.assertEqual(texts.letters, stages[0].letters)
                self.assertEqual(least(texts), texts)
            for text in every_text(stages[0].letters, 5):
                number = pipe.refuses(text)
                self.assertEqual([text in texts for texts in found], [number == place for place in range(len(stages))])
            many += sum(texts.first() is not None for texts in found) > 1
        self.assertGreater(many, 30)

    def test_what_is_known(self):
        for stages, firsts in (([echo()], [None]), ([LAST], [""]), ([LAST, FEW, refusing_texts("a")], ["", "aab", "ab"]),
                               ([FEW, FEW, ending(echo(), {})], ["aa", None, ""]), ([ending(echo(), {}), FEW, LAST], ["", None, None]),
                               ([SHORT, turning(), LAST], ["aaa", None, ""])):
            self.assertEqual([texts.first() for texts in refused_sets(Pipe(stages))], firsts)
        self.assertEqual(refused_sets(Pipe([LAST, FEW]))[0], TextSet("ab", [{"a": 0, "b": 1}, {"a": 0, "b": 1}], [0]))
        self.assertEqual(refused_sets(Pipe([echo(), echo()])), [TextSet("ab", [{"a": 0, "b": 0}], [])] * 2)
        self.assertEqual(refused_sets(Pipe([ending(echo(), {})])), [EVERY])

    def test_sets_of_60_states(self):
        def counting(many):
            return compiled(read_script(f'letters a; counter n {many}; text x; on a {{ x = x "a"; if n = {many} {{ n = 0; }} '
                                        f'else {{ n = n + 1; }} }} end when n = 0: none; end: x;'))

        self.assertEqual([len(texts) for texts in refused_sets(Pipe([counting(59), echo()]))], [60, 1])
        with self.assertRaises(TooLarge):
            refused_sets(Pipe([counting(60)]))
        self.assertEqual(refused_sets(Pipe([counting(59)]))[0].first(), "")

    def test_they_are_new(self):
        pipe = Pipe([LAST, FEW])
        found = refused_sets(pipe)
        found[0].ends.clear()
        found[0].steps[0]["a"] = 1
        found.pop()
        self.assertEqual(refused_sets(pipe)[0].first(), "")
        self.assertEqual(pipe, Pipe([LAST, FEW]))


class JudgedStages(unittest.TestCase):
    def test_made_ones(self):
        kinds = {True: 0, False: 0}
        for number, stages in enumerate(some(1)):
            pipe = Pipe(stages)
            told = [some_set(number * 7 + place * 3, stages[0].letters, 3) for place in range(len(stages) + 1)]
            back = [texts_into(stage, texts) for stage, texts in zip(stages[-1:], told[-1:])]
            for sets in (told, told[:-2] + back + told[-1:], tuple(told)):
                found = judge_stages(pipe, sets)
                self.assertEqual(found, [judge_into(stage, *pair) for stage, *pair in zip(stages, sets, sets[1:])])
                for place, one in enumerate(found):
                    self.assertIsInstance(one, (Into, FallsOut))
                    self.assertTrue(one.shows(stages[place], sets[place], sets[place + 1]))
                    text = next((text for text in every_text("ab", 5) if text in sets[place]
                                 and stages[place](text) not in sets[place + 1]), None)
                    self.assertEqual(text, one.text) if isinstance(one, FallsOut) and len(one.text) < 6 else self.assertIsNone(text)
                    kinds[bool(one)] += 1
                if all(found):
                    for text in every_text("ab", 5):
                        if text in sets[0]:
                            self.assertIn(pipe(text), sets[-1])
        self.assertGreater(min(kinds.values()), 200)

    def test_what_is_known(self):
        pipe = Pipe([turning(), exchanging(), leaving_out("a")])
        found = judge_stages(pipe, [multiples(3), multiples(3), multiples(3, "ab", "b"), multiples(3, "ab", "b")])
        self.assertEqual([bool(one) for one in found], [True, True, True])
        found = judge_stages(pipe, (multiples(3), multiples(3), multiples(3), EVERY))
        self.assertEqual(found[1], FallsOut("b"))
        self.assertEqual([bool(one) for one in found], [True, False, True])
        self.assertEqual([bool(one) for one in judge_stages(Pipe([FEW]), [EVERY, EVERY])], [False])
        self.assertEqual([bool(one) for one in judge_stages(Pipe([FEW]), [domain(FEW), EVERY])], [True])

    def test_goals_of_other_letters(self):
        pipe = Pipe([TO_C, FROM_C])
        every = TextSet("abc", [dict.fromkeys("abc", 0)], [0])
        self.assertEqual([bool(one) for one in judge_stages(pipe, [EVERY, every, TextSet("z", [{"z": 0}], [0])])], [True, False])
        with self.assertRaises(Unlike) as caught:
            judge_stages(pipe, [EVERY, EVERY, EVERY])
        self.assertEqual(caught.exception.what, "letters")

    def test_how_many_sets(self):
        pipe = Pipe([echo(), turning()])
        for wrong in (None, EVERY, [], [EVERY] * 2, (EVERY,) * 4, {0: EVERY, 1: EVERY, 2: EVERY}, "abc", [None] * 2, 3):
            with self.assertRaises(BadNumber):
                judge_stages(pipe, wrong)

    def test_errors_stage_by_stage(self):
        pipe = Pipe([echo(), echo()])
        other = TextSet("a", [{"a": 0}], [0])
        for sets in ([None, EVERY, EVERY], [EVERY, None, EVERY], [EVERY, EVERY, None], [other, None, EVERY], [EVERY, EVERY, "ab"],
                     [None, other, other]):
            with self.assertRaises(BadSet) as caught:
                judge_stages(pipe, sets)
            self.assertIsNone(caught.exception.part)
        for sets in ([other, EVERY, EVERY], [EVERY, other, EVERY], [other, EVERY, None], [EVERY, other, EVERY]):
            with self.assertRaises(Unlike) as caught:
                judge_stages(pipe, sets)
            self.assertEqual(caught.exception.what, "letters")

    def test_too_large_comes_behind_the_others_of_a_stage(self):
        other = TextSet("a", [{"a": 0}], [0])
        with mock.patch("passtexts.sets.MOST_STANDINGS", 1):
            some = TextSet("ab", [{"a": 1, "b": 0}, {"a": 0, "b": 1}], [0])
            pipe = Pipe([turning(), turning()])
            for sets in ([some] * 3, [some, some, None], [some, some, other]):
                with self.assertRaises(TooLarge):
                    judge_stages(pipe, sets)
            with self.assertRaises(Unlike):
                judge_stages(pipe, [other, some, some])
            with self.assertRaises(BadSet):
                judge_stages(pipe, [some, None, some])

    def test_more_than_4000_standings(self):
        steps = {(state, letter): ((state + 1) % 101 if letter == "a" else state, {"x": (("x",), letter)})
                 for state in range(101) for letter in "ab"}
        program = Program("ab", 101, ["x"], {}, steps, {state: (("x",),) for state in range(101)})
        forty = multiples(40, "ab", "b")
        for pipe, sets in ((Pipe([program]), [EVERY, forty]), (Pipe([echo(), program]), [EVERY, EVERY, forty]),
                           (Pipe([program, echo()]), [EVERY, forty, None])):
            with self.assertRaises(TooLarge):
                judge_stages(pipe, sets)
        self.assertEqual(judge_stages(Pipe([program]), [EVERY, multiples(39, "ab", "b")]), [FallsOut("b")])

    def test_nothing_is_kept(self):
        sets = [multiples(3), multiples(3), multiples(3)]
        pipe = Pipe([turning(), turning()])
        judge_stages(pipe, sets).pop()
        self.assertEqual(sets, [multiples(3)] * 3)
        self.assertEqual(pipe, Pipe([turning(), turning()]))
        self.assertEqual(len(judge_stages(pipe, sets)), 2)


class NoPipes(unittest.TestCase):
    def test_what_is_no_pipe_comes_first(self):
        for wrong in (None, [echo()], echo(), 1, "ab", True):
            for call, more in ((needless_stages, ()), (leaned, ()), (idle_stages, ()), (orders, ()), (judge_swap, (9,)), (judge_swap, (None,)),
                               (refused_sets, ()), (judge_stages, (None,)), (judge_stages, ([],))):
                with self.assertRaises(BadPipe) as caught:
                    call(wrong, *more)
                self.assertIsNone(caught.exception.number)

    def test_pipes_are_not_changed(self):
        for stages in some(17):
            pipe = Pipe(stages)
            for call in (needless_stages, leaned, idle_stages, orders, refused_sets):
                call(pipe)
            for number in range(len(stages) - 1):
                judge_swap(pipe, number)
            self.assertEqual(pipe, Pipe(stages))

    def test_lists_are_new(self):
        pipe = Pipe([echo(), echo()])
        for call in (needless_stages, idle_stages, orders, refused_sets):
            call(pipe).append(None)
            self.assertNotIn(None, call(pipe))

    def test_halves_and_every_other(self):
        pipe = Pipe([halves(), every_other(2), turning()])
        self.assertEqual(needless_stages(pipe), [])
        self.assertEqual([texts.first() for texts in refused_sets(pipe)], ["a", None, None])

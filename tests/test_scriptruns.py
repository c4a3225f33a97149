"""Points [26] and [27]: what a script does with a text, at once and letter by letter."""

import unittest

from passtexts.compiling import compiled, states_of
from passtexts.errors import BadNumber, BadWord, NothingDone
from passtexts.scriptruns import Stepper, run_script
from passtexts.scripts import BadScript, read_script
from tests.helpers import every_text
from tests.scripts_made import Followed, counted_script, script_text

HEAD = "letters ab; counter n 5; counter m 3; text x; text y; text z; "


def run(told, text, head=HEAD):
    return run_script(read_script(head + told), text)


def counters(told, text):
    return Stepper(read_script(HEAD + told)).read(text).counters()


def told_by(stepper):
    """All that a stepper tells."""
    return (stepper.text(), stepper.rules(), stepper.counters(), stepper.contents(), stepper.written(), len(stepper))


def some_script():
    return read_script(HEAD + 'on a when n < 3 { n = n + 1; x = x "a"; if n = 3 { stop; y = "b"; } } on b { y = y x; x = ; } '
                       'end when n = 2: y x; end: x;')


class Made(unittest.TestCase):
    def test_followed_word_for_word(self):
        seen = set()
        for number in range(260):
            tree = counted_script(number, "ab" if number % 4 else "abc", number % 2 == 0)
            script = read_script(script_text(tree))
            for text in every_text(tree["letters"], 5 if number % 4 else 4):
                followed = Followed(tree, text)
                written = followed.written()
                self.assertEqual(run_script(script, text), written)
                seen.add((written is None, followed.stopped, None in followed.rules, len(set(followed.rules)) > 2))
                stepper = Stepper(script).read(text)
                self.assertEqual(told_by(stepper), (text, followed.rules, followed.counters, followed.texts, written, len(text)))
        self.assertGreater(len(seen), 7)

    def test_letter_by_letter_and_back(self):
        for number in range(0, 120, 3):
            script = read_script(script_text(counted_script(number, copies=True)))
            for text in every_text("ab", 4):
                stepper = Stepper(script)
                seen = [told_by(stepper)]
                for letter in text:
                    seen.append(told_by(stepper.read(letter)))
                self.assertEqual(seen[-1], told_by(Stepper(script).read(text)))
                for many in range(len(text) + 1):
                    self.assertEqual(told_by(Stepper(script).read(text).back(many)), seen[len(text) - many])
                for state in seen[-2::-1]:
                    self.assertEqual(told_by(stepper.back()), state)

    def test_with_compiled_and_states(self):
        stopped = 0
        for number in range(150):
            script = read_script(script_text(counted_script(number, copies=number % 3 == 0)))
            program, states = compiled(script), states_of(script)
            for text in every_text("ab", 5):
                stepper = Stepper(script).read(text)
                state, held = program.after(text)
                self.assertEqual((stepper.written(), run_script(script, text)), (program(text), program(text)))
                if states[state] is None:
                    stopped += 1
                else:
                    self.assertEqual((stepper.counters(), stepper.contents()), (states[state], held))
        self.assertGreater(stopped, 100)


class WhatIsDone(unittest.TestCase):
    def test_at_first(self):
        script = read_script('letters ab; counter n 5; text y "b"; text x "ab"; on a { } end when n = 0: x "c" y;')
        self.assertEqual(run_script(script, ""), "abcb")
        self.assertEqual(told_by(Stepper(script)), ("", [], {"n": 0}, {"x": "ab", "y": "b"}, "abcb", 0))
        self.assertEqual(list(Stepper(script).contents()), ["x", "y"])
        script = read_script("letters a; counter n 1; counter b 2; counter m 3; on a { n = 1; b = 2; }")
        for text in ("", "a"):
            self.assertEqual(list(Stepper(script).read(text).counters()), ["b", "m", "n"])

    def test_the_first_rule_that_has_the_letter_and_whose_guard_is_true(self):
        told = ('on b { x = x "1"; } on a when n = 1 { x = x "2"; n = 2; } on ab when n = 0 { x = x "3"; n = 1; } '
                'on a { x = x "4"; } on any { x = x "5"; } end: x;')
        self.assertEqual(run(told, "aaab"), "3241")
        self.assertEqual(Stepper(read_script(HEAD + told)).read("abaa").rules(), [2, 0, 1, 3])

    def test_just_one_rule_is_done(self):
        self.assertEqual(run('on a { x = x "1"; n = 1; } on a when n = 1 { x = x "2"; } end: x;', "aa"), "11")

    def test_without_a_rule_nothing_changes(self):
        told = 'on a when n < 1 { x = x "1"; n = n + 1; } end: x;'
        stepper = Stepper(read_script(HEAD + told)).read("ba")
        self.assertEqual((stepper.rules(), stepper.counters(), stepper.written()), ([None, 0], {"m": 0, "n": 1}, "1"))
        before = told_by(stepper)[2:5]
        stepper.read("abab")
        self.assertEqual(stepper.rules(), [None, 0, None, None, None, None])
        self.assertEqual(told_by(stepper)[2:5], before)
        self.assertEqual(run("end: x;", "abba", 'letters ab; text x "c"; '), "c")

    def test_statements_are_done_one_behind_the_other(self):
        self.assertEqual(run('on a { x = "a"; y = x "b" x; x = y; } end: x "c" y;', "a"), "abacaba")
        self.assertEqual(counters("on a { n = 2; m = n; n = m + 1; m = m - 1; }", "a"), {"m": 1, "n": 3})

    def test_rows(self):
        self.assertEqual(run('on a { x = "1" x "" "2" x y; } on b { y = "3"; x = ; } end: x;', "aa"), "112212")
        self.assertEqual(run('on a { x = "1" x y "2"; } on b { y = "3" x; x = ; } end: y x;', "aba"), "312" + "13122")
        self.assertEqual(run('on a { x = "1"; x = ; } end: x;', "a"), "")

    def test_counters_stay_from_0_to_their_most(self):
        self.assertEqual(counters("on a { n = n + 2; m = n; }", "aa"), {"m": 3, "n": 4})
        self.assertEqual(counters("on a { n = n + 2; } on b { n = n - 3; }", "aaa"), {"m": 0, "n": 5})
        self.assertEqual(counters("on a { n = n + 2; } on b { n = n - 3; }", "ab"), {"m": 0, "n": 0})
        self.assertEqual(counters("on a { n = 299 + 299; m = 0 - 299; }", "a"), {"m": 0, "n": 5})
        self.assertEqual(run_script(read_script("letters a; counter n 0; on a { n = n + 1; } end when n > 0: \"a\"; end: ;"), "aa"), "")

    def test_just_the_whole_sum_is_put_to_0_or_the_most(self):
        self.assertEqual(counters("on a { n = 3 + 299 - 299 + 1; }", "a"), {"m": 0, "n": 4})
        self.assertEqual(counters("on a { n = 1 - 3 + 4; }", "a"), {"m": 0, "n": 2})
        self.assertEqual(counters("on a { n = n - 2 + 3; }", "aa"), {"m": 0, "n": 2})
        self.assertEqual(counters("on a { n = 5; m = n - 1; n = m + 4 - 3; }", "a"), {"m": 3, "n": 4})

    def test_an_if_does_one_of_its_sides(self):
        told = 'on a { if n = 1 { x = x "1"; } else { x = x "2"; n = 1; } y = y "3"; } on b { if n > 5 { x = ; } } end: x y;'
        self.assertEqual(run(told, "aa"), "2133")
        self.assertEqual(run(told, "aab"), "2133")
        self.assertEqual(run('on a { if n = 0 { n = 1; } if n = 0 { x = "1"; } else { x = "2"; } } end: x;', "a"), "2")

    def test_guards(self):
        for guard, values in (("n = 2", "2"), ("n != 2", "01345"), ("n < 2", "01"), ("n <= 2", "012"), ("n > 2", "345"),
                              ("n >= 2", "2345"), ("2 < n", "345"), ("n = n", "012345"), ("1 = 2", ""), ("true", "012345"),
                              ("not n = 2", "01345"), ("not not n = 2", "2"), ("n > 1 and n < 4", "23"),
                              ("n = 1 or n = 4", "14"), ("n = 0 or n > 2 and n < 5", "034"), ("(n = 0 or n > 2) and n < 5", "034"),
                              ("(n = 5 or n > 2) and n < 4", "3"), ("n = 5 or n > 2 and n < 4", "35"), ("not n = 1 and n < 3", "02"),
                              ("not (n = 1 and n < 3)", "02345"), ("not (n = 1 or n < 3)", "345"), ("n > m", "12345"),
                              ("not true or n = 3", "3"), ("n = 1 or n = 2 or n = 3", "123"), ("n > 1 and n > 2 and n > 3", "45")):
            script = read_script(HEAD + f'on a {{ n = n + 1; }} on b when {guard} {{ x = "1"; }} on b {{ x = "0"; }} end: x;')
            inner = read_script(HEAD + f'on a {{ n = n + 1; }} on b {{ if {guard} {{ x = "1"; }} else {{ x = "0"; }} }} end: x;')
            ends = read_script(HEAD + f'on a {{ n = n + 1; }} end when {guard}: "1"; end: "0";')
            for value in range(6):
                told = "1" if str(value) in values else "0"
                text = "a" * value + "b"
                self.assertEqual((run_script(script, text), run_script(inner, text), run_script(ends, text)), (told,) * 3)

    def test_names_of_parts_stand_for_the_texts_of_the_call(self):
        parts = ('part put(t) { t = t "1"; } part move(t, u) { u = u t; t = ; do put(u); } '
                 'part back(u, t) { do move(t, u); x = x "2"; n = n + 1; } ')
        self.assertEqual(run(parts + "on a { do put(x); } end: x y;", "aa"), "11")
        self.assertEqual(run(parts + 'on a { x = "3"; do move(x, y); } end: x "c" y;', "a"), "c31")
        self.assertEqual(run(parts + 'on a { x = "3"; y = "4"; do back(x, y); } end: x "c" y "c" z;', "a"), "3412cc")
        self.assertEqual(counters(parts + "on a { do back(x, y); do back(z, z); }", "a"), {"m": 0, "n": 2})

    def test_a_text_several_times_in_a_call(self):
        parts = 'part move(t, u) { u = u t "1"; t = t "2"; } '
        self.assertEqual(run(parts + 'on a { x = "3"; do move(x, x); } end: x;', "a"), "3312")
        parts = 'part set(t, u) { t = "1"; u = t; t = ; } '
        self.assertEqual(run(parts + 'on a { y = "3"; do set(y, y); } end: x "c" y;', "a"), "c")

    def test_stop_ends_all(self):
        for told in ("stop;", "if n = 0 { stop; }", "if n = 1 { } else { stop; }", "do halt();", "do outer();"):
            parts = "part halt() { m = 2; stop; m = 3; } part outer() { if true { do halt(); } n = 5; y = \"1\"; } "
            script = read_script(HEAD + parts + 'on a { x = x "1"; m = 2; ' + told + ' x = "2"; n = 4; } on b { x = x "3"; n = 1; } '
                                 'end: x;')
            stepper = Stepper(script).read("a")
            state = (stepper.counters(), stepper.contents())
            self.assertEqual(state, ({"m": 2, "n": 0}, {"x": "1", "y": "", "z": ""}), told)
            self.assertIsNone(stepper.written())
            stepper.read("bab")
            self.assertEqual((stepper.counters(), stepper.contents()), state)
            self.assertEqual(stepper.rules(), [0, None, None, None])
            self.assertIsNone(stepper.written())
            for text in ("a", "ab", "abba", "aa"):
                self.assertIsNone(run_script(script, text))
            self.assertEqual(run_script(script, "bb"), "33")
            self.assertEqual(stepper.back(4).read("b").written(), "3")

    def test_the_first_end_that_fits_counts(self):
        told = 'on a { n = n + 1; } end when n = 1: "1"; end when n < 3: "2" x; end when n = 4: none; end when n > 2: ; end: "3";'
        self.assertEqual([run(told, "a" * many) for many in range(6)], ["2", "1", "2", "", None, ""])
        self.assertEqual([run(told, "a" * many + "b") for many in range(6)], ["2", "1", "2", "", None, ""])

    def test_without_an_end_that_fits_the_text_is_refused(self):
        self.assertIsNone(run("on a { }", "a"))
        self.assertEqual([run("on a { n = n + 1; } end when n = 1: x;", "a" * many) for many in range(3)], [None, "", None])
        self.assertIsNone(run("end: none; end: x;", ""))

    def test_parts_that_call_parts(self):
        told = 'part p(t) { t = t "1"; } part q(t) { do p(t); t = t t; do p(t); } on any { do q(y); } end: y;'
        self.assertEqual(run(told, "b"), "111")
        self.assertEqual(run(told, "ba"), "111" "1" "1111" "1")

    def test_what_is_written_for_long_texts(self):
        script = read_script('letters ab; text x; on a { x = x "a"; } on b { x = "b" x; } end: x;')
        self.assertEqual(run_script(script, "ab" * 2000), "b" * 2000 + "a" * 2000)


class RefusedTexts(unittest.TestCase):
    def check(self, place, call, *told):
        with self.assertRaises(BadWord) as caught:
            call(*told)
        self.assertEqual(caught.exception.place, place)

    def test_run_script(self):
        script = some_script()
        for text, place in ((None, None), (1, None), (b"ab", None), (["a", "b"], None), ("c", 0), ("abc", 2), ("aB", 1),
                            ("a b", 1), ("aab\n", 3), ("aaaac", 4)):
            self.check(place, run_script, script, text)
            self.check(place, Stepper(script).read, text)

    def test_what_is_no_script_comes_first(self):
        for wrong in (None, "letters a;", 1, [some_script()], compiled(some_script()), True):
            for text in ("a", None, "?"):
                with self.assertRaises(BadScript):
                    run_script(wrong, text)
            with self.assertRaises(BadScript):
                Stepper(wrong)


class Stepping(unittest.TestCase):
    def test_it_returns_itself(self):
        stepper = Stepper(some_script())
        self.assertIs(stepper.read("ab"), stepper)
        self.assertIs(stepper.read(""), stepper)
        self.assertIs(stepper.back(), stepper)
        self.assertIs(stepper.back(0), stepper)

    def test_most(self):
        self.assertEqual(Stepper.MOST, 1000)
        stepper = Stepper(some_script())
        self.assertEqual(len(stepper.read("b" * 1000)), 1000)
        self.assertEqual(len(stepper.read("")), 1000)
        for many, text, place in ((0, "a", 0), (3, "abab", 3), (397, "b" * 401, 400)):
            stepper.back(many)
            before = told_by(stepper)
            with self.assertRaises(BadWord) as caught:
                stepper.read(text)
            self.assertEqual(caught.exception.place, place)
            self.assertEqual(told_by(stepper), before)
        self.assertEqual(len(stepper.read("a" * 400)), 1000)
        with self.assertRaises(BadWord) as caught:
            Stepper(some_script()).read("b" * 1001)
        self.assertEqual(caught.exception.place, 1000)

    def test_another_letter_is_told_ahead_of_too_many(self):
        for text, place in (("b" * 1001 + "c", 1001), ("c" + "b" * 1000, 0), (None, None)):
            with self.assertRaises(BadWord) as caught:
                Stepper(some_script()).read("b").read(text)
            self.assertEqual(caught.exception.place, place)

    def test_all_or_none(self):
        stepper = Stepper(some_script()).read("ab")
        before = told_by(stepper)
        for wrong in ("abc", "c", None, "ab?", "b" * 999):
            with self.assertRaises(BadWord):
                stepper.read(wrong)
            self.assertEqual(told_by(stepper), before)

    def test_back(self):
        stepper = Stepper(some_script()).read("abaab")
        before = told_by(stepper)
        for wrong in (-1, "1", None, True, False, 1.0, [1], -10 ** 9):
            with self.assertRaises(BadNumber):
                stepper.back(wrong)
        for many in (6, 7, 10 ** 12):
            with self.assertRaises(NothingDone):
                stepper.back(many)
        with self.assertRaises(NothingDone):
            Stepper(some_script()).back()
        self.assertEqual(told_by(stepper), before)
        self.assertEqual(told_by(stepper.back(0)), before)
        self.assertEqual(stepper.back(many=2).text(), "aba")
        self.assertEqual(stepper.back().text(), "ab")
        self.assertEqual(told_by(stepper.back(2)), told_by(Stepper(some_script())))

    def test_back_behind_stop(self):
        stepper = Stepper(some_script()).read("aaabb")
        self.assertEqual((stepper.rules(), stepper.counters(), stepper.written()), ([0, 0, 0, None, None], {"m": 0, "n": 3}, None))
        self.assertEqual((stepper.back(3).rules(), stepper.written()), ([0, 0], "aa"))
        self.assertEqual(stepper.read("bb").rules(), [0, 0, 1, 1])

    def test_what_is_returned_is_new(self):
        stepper = Stepper(some_script()).read("aab")
        before = told_by(stepper)
        stepper.rules().append(7)
        stepper.counters()["n"] = 7
        stepper.contents()["x"] = "7"
        stepper.contents().clear()
        self.assertEqual(told_by(stepper), before)
        self.assertEqual(told_by(stepper.back(0).read("ab").back(2)), before)

    def test_the_script_is_neither_changed_nor_kept(self):
        script, same = some_script(), some_script()
        stepper = Stepper(script).read("aab")
        run_script(script, "aabab")
        self.assertEqual(script, same)
        script.counters["n"] = 0
        script.counters["m"] = 9
        script.texts["x"] = "zz"
        script.letters = "abc"
        other = Stepper(same).read("aab")
        self.assertEqual(told_by(stepper), told_by(other))
        self.assertEqual(told_by(stepper.back(3)), told_by(other.back(3)))
        self.assertEqual(told_by(stepper.read("aba")), told_by(other.read("aba")))

    def test_two_steppers_of_one_script(self):
        script = some_script()
        one, other = Stepper(script).read("ab"), Stepper(script)
        other.read("bba").back()
        self.assertEqual(told_by(one), told_by(Stepper(script).read("ab")))

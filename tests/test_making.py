"""Point [22]: programs that are made from others."""

import unittest

from passtexts.alike import judge_same
from passtexts.errors import BadProgram, BadSet, BadWord, TooLarge, Unlike
from passtexts.making import beside, chosen, kept, read_as, respelled, turned
from passtexts.programs import Program
from passtexts.sets import TextSet
from passtexts.thrifty import is_plain, judge_thrifty
from tests.helpers import COPY_MOVES, PLAIN_MOVES, copying, counted, doubling, echo, ending, every_text, shares
from tests.test_sets import ends_in, multiples, some_set

EVERY = TextSet("ab", [{"a": 0, "b": 0}], [0])
WORDS = ({"a": "ab", "b": ""}, {"x": "a", "y": "bba", "z": "ababab"}, {"0": "b"}, {"b": "a", "a": "b", "d": "aa", "c": ""})
SIGNS = ({}, {"a": ""}, {"a": "b", "b": "a"}, {"a": "aa", "c": "b"}, {"b": "0z", "z": "a"})


def both_written(one, other):
    return None if one is None or other is None else one + other


def respelled_text(written, signs):
    return None if written is None else "".join(signs.get(sign, sign) for sign in written)


def some_programs(many, moves=PLAIN_MOVES + COPY_MOVES):
    for number in range(many):
        yield counted(number, "ab", 1 + number % 3, moves), counted(number + 4999, "ab", 1 + number % 2, moves), number


def wide(many, names="abcdefghij"):
    """A program with so many registers."""
    told = [first + second for first in names for second in names][:many]
    return Program("ab", 1, told, {}, {(0, letter): (0, {name: ((name,), letter) for name in told}) for letter in "ab"},
                   {0: tuple((name,) for name in told)})


class Made(unittest.TestCase):
    def check(self, made, states, registers):
        """Checks that it is a whole program, with as many registers and no more states."""
        self.assertIsInstance(made, Program)
        self.assertEqual(Program(made.letters, made.states, made.registers, made.firsts, made.steps, made.ends), made)
        self.assertEqual(len(made.registers), registers)
        self.assertLessEqual(made.states, states)

    def check_kind(self, made, programs):
        """Checks that it is thrifty, and plain, if these programs are."""
        if all(judge_thrifty(program) for program in programs):
            self.assertTrue(judge_thrifty(made))
        if all(is_plain(program) for program in programs):
            self.assertTrue(is_plain(made))

    def test_beside(self):
        for one, other, _ in some_programs(70):
            made = beside(one, other)
            self.check(made, one.states * other.states, 4)
            self.check_kind(made, (one, other))
            for text in every_text("ab", 5):
                self.assertEqual(made(text), both_written(one(text), other(text)))

    def test_chosen(self):
        for one, other, number in some_programs(70):
            texts = some_set(number)
            made = chosen(texts, one, other)
            self.check(made, one.states * other.states * len(texts), 4)
            self.check_kind(made, (one, other))
            for text in every_text("ab", 5):
                self.assertEqual(made(text), one(text) if text in texts else other(text))

    def test_kept(self):
        for one, _, number in some_programs(70):
            texts = some_set(number)
            made = kept(one, texts)
            self.check(made, one.states * len(texts), 2)
            self.check_kind(made, (one,))
            for text in every_text("ab", 5):
                self.assertEqual(made(text), one(text) if text in texts else None)

    def test_turned(self):
        for one, _, _ in some_programs(70):
            made = turned(one)
            self.check(made, one.states, 2)
            self.check_kind(made, (one,))
            for text in every_text("ab", 5):
                self.assertEqual(made(text), None if one(text) is None else one(text)[::-1])
            self.assertEqual(turned(made).ends, one.ends)

    def test_respelled(self):
        for one, _, number in some_programs(70):
            signs = SIGNS[number % len(SIGNS)]
            made = respelled(one, signs)
            self.check(made, one.states, 2)
            self.check_kind(made, (one,))
            for text in every_text("ab", 5):
                self.assertEqual(made(text), respelled_text(one(text), signs))

    def test_read_as(self):
        for one, _, number in some_programs(70):
            words = WORDS[number % len(WORDS)]
            try:
                made = read_as(one, words)
            except TooLarge:
                continue
            self.check(made, one.states, 2)
            self.check_kind(made, (one,))
            self.assertEqual(made.letters, "".join(sorted(words)))
            for text in every_text("".join(words), 3):
                self.assertEqual(made(text), one("".join(words[letter] for letter in text)))

    def test_plain_and_thrifty_programs_stay_so(self):
        kinds = {"plain": 0, "thrifty": 0}
        for one, other, number in some_programs(300, PLAIN_MOVES[:6] + COPY_MOVES[:2]):
            if not judge_thrifty(one) or not judge_thrifty(other):
                continue
            kinds["plain" if is_plain(one) and is_plain(other) else "thrifty"] += 1
            texts = some_set(number)
            for made in (beside(one, other), chosen(texts, one, other), chosen(texts, other, one), kept(one, texts),
                         turned(one), respelled(other, SIGNS[number % 5]), read_as(one, WORDS[number % 4])):
                self.check_kind(made, (one, other))
                self.assertTrue(judge_thrifty(made))
        self.assertGreater(min(kinds.values()), 10)

    def test_far_texts(self):
        one, other, texts = copying(), turned(echo("ab", 3)), ends_in("abb")
        words = {"x": "abbab", "y": "", "0": "bbbbba"}
        read = read_as(one, words)
        for text in ("ab" * 200, "abb" * 150, "aabab" * 111 + "abb"):
            self.assertEqual(beside(one, other)(text), one(text) + text[::-1])
            self.assertEqual(chosen(texts, one, other)(text), one(text) if text.endswith("abb") else text[::-1])
            self.assertEqual(kept(one, texts)(text), one(text) if text.endswith("abb") else None)
            self.assertEqual(turned(one)(text), one(text)[::-1])
            self.assertEqual(respelled(one, {"a": "bcb"})(text), one(text).replace("a", "bcb"))
        for text in ("xy0" * 70, "0x" * 90, "y" * 300):
            self.assertEqual(read(text), one("".join(words[letter] for letter in text)))

    def test_turned_twice_writes_the_same(self):
        for one, _, _ in some_programs(40, PLAIN_MOVES):
            self.assertTrue(judge_same(turned(turned(one)), one))
            self.assertTrue(judge_same(kept(one, EVERY), one))
            self.assertTrue(judge_same(chosen(EVERY, one, echo()), one))
            self.assertTrue(judge_same(read_as(one, {"a": "a", "b": "b"}), one))
            self.assertTrue(judge_same(respelled(one, {}), one))

    def test_first_contents_and_long_texts(self):
        program = Program("a", 1, ["x"], {"x": "abc"}, {(0, "a"): (0, {"x": ("cd", ("x",), "e")})}, {0: ("12", ("x",), "3")})
        self.assertEqual(turned(program)("a"), "12cdabce3"[::-1])
        self.assertEqual(respelled(program, {"a": "xx", "1": "", "e": "55"})("a"), "2cdxxbc553")
        self.assertEqual(beside(program, program)("a"), "12cdabce3" * 2)
        self.assertEqual(read_as(program, {"z": "aa"})("z"), "12cdcdabcee3")
        self.assertEqual(respelled(program, {"c": "0" * 5000})(""), "12ab" + "0" * 5000 + "3")

    def test_the_same_program_twice_and_no_registers(self):
        self.assertEqual(beside(echo(), echo())("ab"), "abab")
        constant = Program("ab", 1, [], {}, {(0, letter): (0, {}) for letter in "ab"}, {0: ("c",)})
        self.assertEqual(beside(constant, echo())("ab"), "cab")
        self.assertEqual(chosen(multiples(2), constant, constant)("ab"), "c")
        self.assertEqual([turned(constant)("a"), respelled(constant, {"c": ""})("a"), kept(constant, EVERY)("a"),
                          read_as(constant, {"c": ""})("cc")], ["c", "", "c", "c"])

    def test_states_that_no_text_leads_to(self):
        steps = {(state, letter): (0, {}) for state in range(200) for letter in "ab"}
        program = Program("ab", 200, ["x"], {"x": "a"}, steps, {0: (("x",),)})
        self.assertEqual(beside(program, program)("ab"), "aa")
        self.assertEqual(chosen(multiples(60), program, program)("ab"), "a")
        self.assertEqual(kept(program, multiples(60))("b"), "a")

    def test_new_and_unchanged(self):
        one, other, texts, signs, words = copying(), echo("ab", 2), multiples(3), {"a": "b"}, {"a": "ab"}
        told = (beside(one, other), beside(one, one), chosen(texts, one, other), kept(one, texts), turned(one),
                respelled(one, signs), respelled(one, {}), read_as(one, words), read_as(one, {"a": "a", "b": "b"}))
        for made in told:
            self.assertFalse(shares(made, one) or shares(made, other))
        self.assertEqual([one, other, texts, signs, words], [copying(), echo("ab", 2), multiples(3), {"a": "b"},
                                                             {"a": "ab"}])
        again = (beside(one, other), beside(one, one), chosen(texts, one, other), kept(one, texts), turned(one),
                 respelled(one, signs), respelled(one, {}), read_as(one, words), read_as(one, {"a": "a", "b": "b"}))
        self.assertEqual(told, again)


class Limits(unittest.TestCase):
    def test_states(self):
        self.assertEqual(beside(echo("ab", 15), echo("ab", 20)).states, 60)
        one, other = echo("ab", 20), Program(
            "ab", 15, ["x"], {}, {(state, letter): ((state + (letter == "a")) % 15, {}) for state in range(15)
                                  for letter in "ab"}, {0: ("c",)})
        self.assertEqual(beside(one, other).states, 300)
        with self.assertRaises(TooLarge):
            beside(echo("ab", 21), ending(other, {}))
        self.assertEqual(beside(echo("ab", 300), echo("ab", 300)).states, 300)
        with self.assertRaises(TooLarge):
            kept(echo("ab", 6), multiples(51))
        self.assertEqual(kept(echo("ab", 6), multiples(50)).states, 300)
        with self.assertRaises(TooLarge):
            chosen(multiples(11), echo("ab", 4), echo("ab", 7))
        self.assertEqual(chosen(multiples(10), echo("ab", 5), echo("ab", 6)).states, 300)

    def test_registers(self):
        self.assertEqual(len(beside(wide(30), wide(30)).registers), 60)
        self.assertEqual(len(chosen(EVERY, wide(59), wide(1)).registers), 60)
        for asked in (beside, lambda one, other: chosen(EVERY, one, other)):
            with self.assertRaises(TooLarge):
                asked(wide(31), wide(30))
            with self.assertRaises(TooLarge):
                asked(wide(60), wide(1))
        self.assertEqual(len(kept(wide(60), EVERY).registers), 60)
        self.assertEqual(len(turned(wide(60)).registers), 60)

    def test_items_of_read_as(self):
        def doubled(many):
            row = (("x",),) * many
            return Program("a", 1, ["x"], {"x": "b"}, {(0, "a"): (0, {"x": row})}, {0: (("x",),)})

        self.assertEqual(len(read_as(doubled(20), {"a": "aa"}).steps[(0, "a")][1]["x"]), 400)
        self.assertEqual(len(read_as(doubled(2), {"a": "aaaaaa"}).steps[(0, "a")][1]["x"]), 64)
        for many, word in ((21, "aa"), (3, "aaaaaa"), (401, "a"), (60, "aaaaaa")):
            with self.assertRaises(TooLarge):
                read_as(doubled(many), {"a": word})
            with self.assertRaises(TooLarge):
                read_as(doubled(many), {"a": "", "b": word})
        self.assertEqual(read_as(doubled(400), {"a": "a"})("a"), "b" * 400)
        self.assertEqual(read_as(doubled(60), {"a": ""})("aaa"), "b")

    def test_items_with_texts_between(self):
        def program(row, end=(("x",),)):
            return Program("a", 1, ["x", "y"], {"x": "b"}, {(0, "a"): (0, {"x": row})}, {0: end})

        # texts side by side are one, so that there are no more items than 400, though more come together
        for many, behind, items in ((14, (), 392), (14, ("d",), 393), (13, (), 338), (14, (("y",),), 406)):
            row = (("c", ("x",)) * many) + behind
            if items <= 400:
                self.assertEqual(len(read_as(program(row), {"a": "aa"}).steps[(0, "a")][1]["x"]), items)
            else:
                with self.assertRaises(TooLarge):
                    read_as(program(row), {"a": "aa"})
        self.assertEqual(read_as(program(("c", ("x",)) * 14), {"a": "aa"})("a"), ("c" + "cb" * 14) * 14)
        with self.assertRaises(TooLarge):
            read_as(program(("c", ("x",)) * 15), {"a": "aa"})
        for row, items in ((("c", ("x",)) * 200, 400), (("c", ("x",)) * 200 + ("c",), 401), ((("x",), "c") * 200, 400),
                           ((("x",), "c") * 200 + (("x",),), 401), ((("x",), "c") * 200 + (("x",), ("x",)), 402)):
            if items <= 400:
                self.assertEqual(len(read_as(program(row), {"a": "a"}).steps[(0, "a")][1]["x"]), items)
            else:
                with self.assertRaises(TooLarge):
                    read_as(program(row), {"a": "a"})
        # a register that is emptied leaves texts side by side, which are one then
        steps = {(0, "a"): (1, {"y": ()}), (1, "a"): (0, {"x": ("c", ("y",), "c", ("x",)) * 200})}
        emptied = Program("a", 2, ["x", "y"], {"x": "b"}, steps, {0: (("x",),)})
        self.assertEqual(read_as(emptied, {"a": "aa"}).steps[(0, "a")][1]["x"], ("cc", ("x",)) * 200)
        steps[(1, "a")] = (0, {"x": ("c", ("y",), "c", ("x",)) * 200 + (("y",), "c", ("y",))})
        with self.assertRaises(TooLarge):
            read_as(Program("a", 2, ["x", "y"], {"x": "b"}, steps, {0: (("x",),)}), {"a": "aa"})
        # texts alone, however many come together, are one item
        self.assertEqual(read_as(program(("c", ("x",), "c")), {"a": "aaaaaa"}).steps[(0, "a")][1]["x"],
                         ("c" * 6, ("x",), "c" * 6))

    def test_items_that_are_left_out_again(self):
        # far too many items would come up on the way, but the register is emptied ahead of it
        steps = {(0, "a"): (0, {"x": (("x",),) * 60}), (0, "b"): (0, {"x": ()})}
        program = Program("ab", 1, ["x"], {"x": "a"}, steps, {0: (("x",),)})
        self.assertEqual(read_as(program, {"a": "baaaaa", "b": "aaaaab"})("ab"), "")
        with self.assertRaises(TooLarge):
            read_as(program, {"a": "baaaaa", "b": "aaaaa"})
        names = ["x", "y"]
        steps = {(0, "a"): (0, {"x": (("x",), ("y",)) * 30, "y": (("x",), ("y",)) * 30}), (0, "b"): (0, {"x": (), "y": ()})}
        program = Program("ab", 1, names, {"x": "a"}, steps, {0: (("x",),)})
        self.assertEqual(read_as(program, {"c": "aaaaab", "d": "baaaaa"})("c"), "")

    def test_rows_at_the_end(self):
        end = (("x",),) * 401
        program = Program("a", 1, ["x"], {"x": "b"}, {(0, "a"): (0, {})}, {0: end})
        with self.assertRaises(TooLarge):
            read_as(program, {"a": "a"})
        self.assertEqual(read_as(ending(program, {0: end[1:]}), {"a": "a"})("a"), "b" * 400)


class Refused(unittest.TestCase):
    def test_programs_and_sets_in_the_order_of_the_arguments(self):
        good, texts = echo(), EVERY
        for asked, error in ((lambda: beside(None, 1), BadProgram), (lambda: beside(good, None), BadProgram),
                             (lambda: beside(texts, good), BadProgram), (lambda: chosen(None, None, None), BadSet),
                             (lambda: chosen(good, good, good), BadSet), (lambda: chosen(texts, None, good), BadProgram),
                             (lambda: chosen(texts, good, "ab"), BadProgram), (lambda: chosen("ab", good, 1), BadSet),
                             (lambda: kept(None, None), BadProgram), (lambda: kept(good, None), BadSet),
                             (lambda: kept(good, good), BadSet), (lambda: kept(texts, texts), BadProgram),
                             (lambda: turned(None), BadProgram), (lambda: turned(texts), BadProgram),
                             (lambda: respelled(None, None), BadProgram), (lambda: read_as("ab", None), BadProgram)):
            with self.assertRaises(error) as caught:
                asked()
            self.assertIsNone(caught.exception.part)

    def test_letters(self):
        three = multiples(2, "abc")
        for asked in (lambda: beside(echo(), echo("abc")), lambda: beside(wide(60), echo("a", 300)),
                      lambda: chosen(three, echo(), echo()), lambda: chosen(EVERY, echo(), echo("abc")),
                      lambda: chosen(EVERY, echo("abc"), echo()), lambda: kept(echo(), three),
                      lambda: kept(echo("ab", 300), multiples(60, "bc", "b"))):
            with self.assertRaises(Unlike) as caught:
                asked()
            self.assertEqual(caught.exception.what, "letters")

    def test_signs(self):
        for wrong in (None, 1, "ab", [("a", "b")], {"ab": "a"}, {"": "a"}, {"A": "a"}, {"a": "A"}, {"a": None}, {1: "a"},
                      {"a": ["b"]}, {None: "a"}, {"a": "b", "b": " "}, {("a",): "a"}):
            with self.assertRaises(Unlike) as caught:
                respelled(echo(), wrong)
            self.assertEqual(caught.exception.what, "signs")

    def test_words(self):
        for wrong in (None, 1, "ab", {}, {"ab": "a"}, {"": "a"}, {"A": "a"}, {"a": None}, {1: "a"}, {"a": "aaaaaaa"},
                      {"a": "A"}, {"a": "a", "b": "a b"}, {letter: "a" for letter in "abcde"}, [("a", "b")],
                      {"a": "c", "b": "A"}, {"a": "c", "b": "aaaaaaa"}, {"a": ["a"]}, {None: "a"}):
            with self.assertRaises(Unlike) as caught:
                read_as(echo(), wrong)
            self.assertEqual(caught.exception.what, "words")

    def test_words_with_other_letters(self):
        for words, place in (({"a": "c"}, 0), ({"a": "abc", "b": "c"}, 2), ({"b": "c", "a": "abc"}, 2),
                             ({"a": "ab", "b": "aabab0"}, 5), ({"z": "c", "0": "bc"}, 1)):
            with self.assertRaises(BadWord) as caught:
                read_as(echo(), words)
            self.assertEqual(caught.exception.place, place)
            with self.assertRaises(BadWord):
                read_as(Program("ab", 1, ["x"], {}, {(0, letter): (0, {"x": (("x",),) * 401}) for letter in "ab"}, {}), words)
        self.assertEqual(read_as(doubling(), {"c": "ab"})("cc"), "aaaa")

"""Point [24]: the texts of programs."""

import unittest

from passtexts.errors import BadProgram, BadText
from passtexts.programs import Program
from passtexts.programtexts import read_program, write_program
from passtexts.values import word_of
from tests.helpers import COPY_MOVES, PLAIN_MOVES, copying, counted, doubling, echo, shares
from tests.marked import marked

HEAD = "letters ab\nregisters x y\n"
STEPS = "0 a 0\n0 b 0\n"
WHOLE = HEAD + STEPS


def made(firsts=None, step=None, ends=None):
    """The program of WHOLE with other firsts, another step with a, and ends."""
    steps = {(0, "a"): (0, step or {}), (0, "b"): (0, {})}
    return Program("ab", 1, ["x", "y"], firsts or {}, steps, ends or {})


class ReadRightly(unittest.TestCase):
    def test_all_kinds_of_lines(self):
        text = ('letters ab\nregisters x y\nfirst x "ab"\n0 a 1: x = "b" x y; y =\n0 b 0\n1 a 0: y = "0" "1z"\n1 b 1\n'
                'end 1: x "c"\nend 0:\n')
        self.assertEqual(read_program(text), Program(
            "ab", 2, ["x", "y"], {"x": "ab"},
            {(0, "a"): (1, {"x": ("b", ("x",), ("y",)), "y": ()}), (0, "b"): (0, {}),
             (1, "a"): (0, {"y": ("0", "1z")}), (1, "b"): (1, {})},
            {1: (("x",), "c"), 0: ()}))

    def test_letters_in_any_order_and_figures(self):
        program = read_program("letters b0a\n0 a 0\n0 b 0\n0 0 0")
        self.assertEqual(program, Program("0ab", 1, [], {}, {(0, sign): (0, {}) for sign in "0ab"}, {}))

    def test_without_registers_there_is_no_line_for_them(self):
        self.assertEqual(read_program('letters a\n0 a 0\nend 0: "c"'),
                         Program("a", 1, [], {}, {(0, "a"): (0, {})}, {0: ("c",)}))

    def test_firsts_steps_and_ends_in_any_order(self):
        lines = ['first x "b"', "0 a 0: x = y", 'first y ""', "0 b 0", "end 0: y"]
        told = read_program(HEAD + "\n".join(lines))
        self.assertEqual(told, made({"x": "b"}, {"x": (("y",),)}, {0: (("y",),)}))
        for turn in range(len(lines)):
            self.assertEqual(read_program(HEAD + "\n".join(lines[turn:] + lines[:turn])), told)
            self.assertEqual(read_program(HEAD + "\n".join(lines[turn:] + lines[:turn][::-1]) + "\n"), told)

    def test_words_that_begin_lines_are_registers_too(self):
        text = 'letters a\nregisters first end letters\nfirst end "b"\nfirst first "c"\n0 a 0: end = letters end\nend 0: end'
        self.assertEqual(read_program(text), Program(
            "a", 1, ["first", "end", "letters"], {"end": "b", "first": "c"},
            {(0, "a"): (0, {"end": (("letters",), ("end",))})}, {0: (("end",),)}))

    def test_any_number_of_blanks_between_pieces(self):
        close = 'letters ab\nregisters x y\nfirst x"ab"\n0 a 0:x="b"x y"c""d";y=\n0 b 0\nend 0:"e"x'
        wide = ('letters    ab\nregisters  x   y\nfirst   x    "ab"\n0   a  0  :  x  =  "b"  x   y "c"   "d"  ;  y  =\n'
                '0  b   0\nend    0   :   "e"    x')
        self.assertEqual(read_program(close), read_program(wide))
        self.assertEqual(read_program(close), made(
            {"x": "ab"}, {"x": ("b", ("x",), ("y",), "cd"), "y": ()}, {0: ("e", ("x",))}))

    def test_blanks_around_lines(self):
        self.assertEqual(read_program("  letters a  \n 0 a 0  \n   \n"), read_program("letters a\n0 a 0"))

    def test_remarks_and_lines_without_anything_else(self):
        text = ('# a program: "@\n\nletters ab#letters ab\n   \nregisters x y # registers\n#\n0 a 0: x = "b"# y\n\n\n'
                '0 b 0 # "\n  # end 0:\n')
        self.assertEqual(read_program(text), made({}, {"x": ("b",)}))

    def test_a_remark_that_begins_within_quotes_leaves_them_open(self):
        self.assertRaises(BadText, read_program, WHOLE + 'end 0: "a#b"')

    def test_texts_side_by_side_and_empty_ones(self):
        self.assertEqual(read_program(WHOLE + 'end 0: "a" "" "b" x "" y'), made(ends={0: ("ab", ("x",), ("y",))}))
        self.assertEqual(read_program(WHOLE + 'first x ""'), made())

    def test_as_many_states_as_the_greatest_one_tells(self):
        for lines, states in (("0 a 0", 1), ("0 a 1\n1 a 0", 2), ("2 a 2\n0 a 0\n1 a 0", 3)):
            self.assertEqual(read_program("letters a\n" + lines).states, states)
        text = "letters a\n" + "".join(f"{state} a {(state + 1) % 300}\n" for state in range(300))
        self.assertEqual(read_program(text).states, 300)
        self.assertEqual(read_program(text + "end 299:").ends, {299: ()})

    def test_the_most_letters_and_registers(self):
        names = [word_of(number) for number in range(60)]
        self.assertEqual(read_program("letters a\nregisters " + " ".join(names) + "\n0 a 0").registers, sorted(names))
        self.assertEqual(read_program("letters dcba\n0 a 0\n0 b 0\n0 c 0\n0 d 0").letters, "abcd")
        self.assertEqual(read_program("letters a\nregisters abcdefgh\n0 a 0").registers, ["abcdefgh"])

    def test_a_row_may_keep_what_a_register_holds(self):
        self.assertEqual(read_program(WHOLE.replace("0 a 0", "0 a 0: x = x; y = y")), made())

    def test_what_is_read_is_new(self):
        one, other = read_program(WHOLE), read_program(WHOLE)
        self.assertFalse(shares(one, other))
        one.steps[(0, "a")][1]["x"] = ()
        self.assertEqual(read_program(WHOLE), other)


# in all of these the sign @ stands ahead of the piece that is refused
FIRST_LINES = """
    @|@0 a 0|@x|@?|@registers x|@first x ""|@end 0:|@letter a|@: a|@lettersa|@lettersab ab|@"a"|@letters1 a
    letters@|letters   @|letters @# a|letters @abcde|letters @aba|letters a@B|letters @A|letters @"a"|letters @;
    letters a @b|letters ab @;|letters a @letters|letters ab @registers x|letters ab@?|letters a @"
""".strip()
REGISTER_LINES = """
    registers@|registers  @# x|registers @0|registers @x1|registers @1x|registers x @x|registers x y @abcdefghi
    registers x@, y|registers x @"y"|registers x y@:|registers x@=|registers @X|@registersx|@letters ab|@?|registers x@X
""".strip()
FIRSTS = """
    first@|first  @|first @# x|first @"a"|first @z "a"|first @0 "a"|first x@|first x  @# "a"|first x @y|first x @a
    first x @: "a"|first x @= "a"|first x "a" @"b"|first x "a" @y|first x "a" @;|first x "a@|first x "@|first x "a@B"
    first x "a@ b"|first x "a@  |first x "a@#"|first x "@#|first x "@'"|first x "a@=b"|first x "@ "|first x @'a'
    @firsts x "a"|@First x "a"|first @first ""
""".strip()
STEPS_ALONE = """
    @00 a 0|@01 a 0|@300 a 0|@1000 a 0|@-1 a 0|@x a 0|@0a 0|@a 0|@: a|@? a|@"a"|@= a|@; a|@registers z|@letters ab
    0@|0  @|0 @# a|0 @c 0|0 @ab 0|0 @aa 0|0 @0 0|0 @: a|0 @"a" 0|0 @A 0|0 a@|0 a  @#|0 a @b|0 a @x|0 a @300|0 a @00
    0 a @0x|0 a @: 0|0 a @"0"|0 a 0 @0|0 a 0 @x = y|0 a 0 @; x = y|0 a 0 @= y|0 a 0 @"b"|0 a 0@?|0 a 0@.|0 a 0@, x = y
""".strip()
ROWS = """
    0 a 0:@|0 a 0:  @|0 a 0: @# x|0 a 0: @"a"|0 a 0: @z = x|0 a 0: @0 = x|0 a 0: @= x|0 a 0: @: x|0 a 0: @; x =
    0 a 0: x@|0 a 0: x  @# =|0 a 0: x @y|0 a 0: x @: y|0 a 0: x @; y = x|0 a 0: x @"a"|0 a 0: x = @z|0 a 0: x = x y @z
    0 a 0: x = @0|0 a 0: x = @= y|0 a 0: x = y @= x|0 a 0: x = y @: y = x|0 a 0: x = y;@|0 a 0: x = y;  @
    0 a 0: x = y; @# y|0 a 0: x = y; @; y = x|0 a 0: x = y; @x = y|0 a 0: x =; y =; @x =|0 a 0: x = y y @= x
    0 a 0: x = y; @z = y|0 a 0: x = y; @"a"|0 a 0: x = "a@|0 a 0: x = y "a@Z"|0 a 0: x = "@-"|0 a 0: x = "a" "b@
    0 a 0: x = "a""b""@|0 a 0: x = "a@ ; y =|0 a 0: x = "a@;"|0 a 0: x = "a@#"|0 a 0: x = @'a'|0 a 0: x = y @, x
    0 a 0: x = @X|0 a 0: x = @xy|0 a 0: x = @x0|0 a 0: x = @(y)|0 a 0: x =@= y|0 a 0: x = y y x "a" @?|0 a 0: x @+ y
""".strip()
ENDS = """
    end@|end  @|end @# 0|end @x|end @: x|end @300: x|end @01: x|end @"0": x|end 0@|end 0  @|end 0 @# :|end 0 @x
    end 0 @= x|end 0 @; x|end 0 @"a"|end 0: @z|end 0: x @= y|end 0: x @; y|end 0: x @: y|end 0: "a@|end 0: "a@B"
    end 0: "a@#b"|end 0: x "@|end 0: @0|end 0: x y @?|@ends 0: x|@none|end 0: @none
""".strip()
ALREADY = (
    HEAD + 'first x "a"\nfirst @x "b"', HEAD + 'first x ""\nfirst y ""\n\nfirst @x ""', HEAD + STEPS + "0 @a 0",
    HEAD + STEPS + "0 @b 0", HEAD + "0 a 0\n0 @a 1\n", HEAD + "0 a 1: x =\n1 a 0\n1 @a 0", HEAD + "end 0:\nend @0:",
    HEAD + "end 0: x\nend 1:\nend @0: x", HEAD + "@registers z", HEAD + "0 a 0\n@registers z\n",
    "letters ab\n0 a 0\n@registers z", HEAD + "0 a 0\n@letters ab", HEAD + "0 a 0: x = y; y = x; @y =",
)
MISSING = (
    "@", "\n@", "\n\n# nothing\n@", "   @", "# letters a@", "letters ab@", "letters ab\n@", "letters ab # a@",
    "letters ab\n  @", "letters ab\n# a@", HEAD + "@", HEAD + "0 a 0\n@", HEAD + "0 a 0@", HEAD + "0 a 0 # 0 b 0@",
    HEAD + STEPS + "end 1: x@", HEAD + STEPS + "end 1: x\n\n # a@", HEAD + "0 a 0\n0 b 1@", HEAD + STEPS + "1 a 0\n@",
    HEAD + STEPS + "2 a 0\n2 b 0\n1 b 0  @", "letters a\n0 a 299@", HEAD + "end 0:\n\n@",
)


def told_in(head, table):
    """The texts of a table, each with a head of lines ahead."""
    return [head + told.lstrip() for line in table.split("\n") for told in line.strip("\n").split("|")]


FAULTS = told_in("", FIRST_LINES) + told_in("letters ab\n", REGISTER_LINES)
for lines in (FIRSTS, STEPS_ALONE, ROWS, ENDS):
    FAULTS.extend(told_in(HEAD, lines) + told_in(HEAD + 'first y ""\n1 b 0\n# "\n', lines))
FAULTS.extend(ALREADY + MISSING)


class Refused(unittest.TestCase):
    def place_of(self, text):
        with self.assertRaises(BadText, msg=repr(text)) as caught:
            read_program(text)
        return caught.exception.line, caught.exception.column

    def test_the_first_piece_that_cannot_stand_there(self):
        self.assertGreater(len(FAULTS), 350)
        for told in FAULTS:
            with self.subTest(told):
                text, place = marked(told)
                self.assertEqual(self.place_of(text), place)

    def test_a_sign_that_begins_none_at_each_place(self):
        text = HEAD + 'first x "ab"\n0 a 1: x = "b" x y; y =\n0 b 0\n1 a 0\n1 b 1\nend 1: x "c"'
        self.assertEqual(read_program(text).states, 2)
        lines = text.split("\n")
        for number, line in enumerate(lines):
            places = [place for place in range(len(line)) if line[place] == " "] + [len(line)]
            for place in places:
                for sign in ("?", "\t", "A", "@", "\u00e9", "\r"):
                    wrong = lines[:number] + [line[:place] + sign + line[place:]] + lines[number + 1:]
                    self.assertEqual(self.place_of("\n".join(wrong)), (number + 1, place + 1), wrong)

    def test_lines_that_end_too_early(self):
        lines = [HEAD + 'first x "ab"', "0 a 1: x = y; y =", "0 b 0", "1 a 0", "1 b 1", 'end 1: x "c"']
        fine = ("0 a 1", "0 a 1: x =", "0 a 1: x = y", "end 1:", "end 1: x")
        for number, line in enumerate(lines):
            words = line.split(" ")
            for many in range(1, len(words)):
                cut = " ".join(words[:many])
                # without this line too the others are told, so only the end of it can be wrong
                if cut.split("\n")[-1] not in fine and number != 0:
                    for rest, place in (("", len(cut) + 1), ("  ", len(cut) + 3), ("  # x", len(cut) + 3)):
                        told = "\n".join(lines[:number] + [cut + rest] + lines[number + 1:])
                        self.assertEqual(self.place_of(told), (number + 3, place), told)

    def test_one_register_too_many(self):
        names = [word_of(number) for number in range(61)]
        text, place = marked("letters a\nregisters " + " ".join(names[:60]) + " @" + names[60] + "\n0 a 0")
        self.assertEqual(self.place_of(text), place)
        text, place = marked("letters a\nregisters " + " ".join(names[:60]) + " @?\n0 a 0")
        self.assertEqual(self.place_of(text), place)

    def test_the_first_fault_of_several_counts(self):
        for told in told_in(HEAD, FIRSTS) + told_in(HEAD, ROWS) + told_in(HEAD, ENDS):
            text, place = marked(told)
            for rest in ("\n?", "\nregisters x", "\n0 a 0\n0 a 0", "\n300 a 0"):
                self.assertEqual(self.place_of(text + rest), place, told)
        for told, rest in (("@", "?"), ("letters @aa", " ?"), ("letters ab\nregisters x @x", " x ?")):
            text, place = marked(told)
            self.assertEqual(self.place_of(text + rest), (1, 1) if told == "@" else place)

    def test_what_is_no_string(self):
        for wrong in (None, 1, b"letters a\n0 a 0", ["letters a", "0 a 0"], echo()):
            self.assertEqual(self.place_of(wrong), (0, 0))


class WrittenRightly(unittest.TestCase):
    def test_the_form(self):
        program = Program(
            "ba", 3, ["y", "x"], {"y": "c0", "x": ""},
            {(2, "b"): (0, {"y": (), "x": ("a", ("x",), "b", ("y",))}), (2, "a"): (1, {}), (0, "b"): (1, {"y": (("x",),)}),
             (0, "a"): (2, {"x": (("x",),)}), (1, "b"): (1, {"x": ("0",)}), (1, "a"): (0, {"y": (("y",), "a")})},
            {2: (("x",), "c", ("y",)), 0: ()})
        self.assertEqual(write_program(program), (
            'letters ab\nregisters x y\nfirst y "c0"\n0 a 2\n0 b 1: y = x\n1 a 0: y = y "a"\n1 b 1: x = "0"\n2 a 1\n'
            '2 b 0: x = "a" x "b" y; y =\nend 0:\nend 2: x "c" y\n'))

    def test_without_registers_and_ends(self):
        self.assertEqual(write_program(Program("b", 1, [], {}, {(0, "b"): (0, {})}, {})), "letters b\n0 b 0\n")

    def test_steps_and_ends_by_number(self):
        steps = {(state, "a"): ((state + 1) % 11, {}) for state in range(11)}
        lines = write_program(Program("a", 11, [], {}, steps, {10: (), 2: ()})).split("\n")
        self.assertEqual(lines[1:12], [f"{state} a {(state + 1) % 11}" for state in range(11)])
        self.assertEqual(lines[12:], ["end 2:", "end 10:", ""])

    def test_it_is_read_again(self):
        programs = [counted(number, "ab", 1 + number % 3, PLAIN_MOVES + COPY_MOVES) for number in range(300)]
        for program in programs + [copying(), doubling(), echo("0az9", 7)]:
            text = write_program(program)
            again = read_program(text)
            self.assertEqual(again, program)
            self.assertEqual(write_program(again), text)
            self.assertFalse(shares(again, program))

    def test_what_is_no_program(self):
        for wrong in (None, "letters a\n0 a 0\n", 1, [echo()]):
            with self.assertRaises(BadProgram) as caught:
                write_program(wrong)
            self.assertIsNone(caught.exception.part)

    def test_the_program_is_not_changed(self):
        one, other = counted(5, "ab", 3), counted(5, "ab", 3)
        write_program(one)
        self.assertEqual(one, other)

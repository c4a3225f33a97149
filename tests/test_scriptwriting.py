"""Point [25]: the form of the text that write_script returns, and that it is read as an equal script."""

import itertools
import unittest

from passtexts.scripts import BadScript, read_script
from passtexts.scriptwriting import write_script
from tests.helpers import Digits
from tests.scripts_made import counted_script, script_text

HEAD = "letters ab; counter f 2; counter g 3; text x; text y; "
HEAD_LINES = "letters ab;\ncounter f 2;\ncounter g 3;\ntext x;\ntext y;\n"


class WrittenRightly(unittest.TestCase):
    def written(self, told, lines, head=HEAD, head_lines=HEAD_LINES):
        """Checks that this is written in these lines, and that they are read as it again."""
        script = read_script(head + told)
        text = write_script(script)
        self.assertEqual(text, head_lines + "".join(line + "\n" for line in lines))
        self.assertEqual(read_script(text), script)
        self.assertEqual(write_script(read_script(text)), text)

    def in_rule(self, told, *lines):
        self.written("on a { " + told + " }", ["on a {"] + ["  " + line for line in lines] + ["}"])

    def test_letters(self):
        self.written("", [], "letters b0a;", "letters 0ab;\n")

    def test_counters_then_texts_each_ascending(self):
        self.written("", [], 'letters a; text y "b"; counter n 299; text x; counter m 0; text aa "";',
                     'letters a;\ncounter m 0;\ncounter n 299;\ntext aa;\ntext x;\ntext y "b";\n')

    def test_no_empty_first_content(self):
        self.written("", [], 'letters a; text x ""; text y "0a";', 'letters a;\ntext x;\ntext y "0a";\n')

    def test_parts_in_their_order(self):
        self.written('part set(t) { t=; } part add(t,u) { t="a"t  u; do set(u); } part no(){}',
                     ["part set(t) {", "  t =;", "}", "part add(t, u) {", '  t = "a" t u;', "  do set(u);", "}", "part no() {", "}"])

    def test_rules_and_ends_in_their_order(self):
        self.written("on b { } on a { } on b when f = 0 { } end when f = 1: x; end: y; end: none;",
                     ["on b {", "}", "on a {", "}", "on b when f = 0 {", "}", "end when f = 1: x;", "end: y;", "end: none;"])

    def test_the_letters_of_rules(self):
        self.written("on ba { } on b { }", ["on any {", "}", "on b {", "}"])
        self.written("on cab { } on dbca { }", ["on abc {", "}", "on any {", "}"], "letters dcba; ", "letters abcd;\n")
        self.written("on any { } on nya { } on yan { } on yn { } on xa { }",
                     ["on any {", "}", "on nya {", "}", "on nya {", "}", "on ny {", "}", "on ax {", "}"],
                     "letters nyxa; ", "letters anxy;\n")
        self.written("on nya { } on any { }", ["on any {", "}", "on any {", "}"], "letters yna; ", "letters any;\n")

    def test_no_when_true(self):
        self.written("on a when true { } on a when (true) { } end when ((true)): x;", ["on a {", "}", "on a {", "}", "end: x;"])
        self.written("on a when not true { } end when true and true: x;",
                     ["on a when not true {", "}", "end when true and true: x;"])
        self.in_rule("if true { }", "if true {", "}")

    def test_ends(self):
        self.written('end:x"1"y; end: ; end when f=0 : none; end:"";',
                     ['end: x "1" y;', "end:;", "end when f = 0: none;", 'end: "";'])

    def test_rows(self):
        self.in_rule('x="a""b"y x; y=; x = "" ;', 'x = "a" "b" y x;', "y =;", 'x = "";')

    def test_sums_have_one_number_or_none_for_0(self):
        for told, line in (("f", "f"), ("f+0", "f"), ("f-0", "f"), ("f+1-1", "f"), ("g+1", "g + 1"), ("f-1", "f - 1"), ("f + 1 - 3", "f - 2"),
                           ("f + 2 + 3", "f + 5"), ("7", "7"), ("7 + 0", "7"), ("7 + 2 - 1", "7 + 1"), ("0 - 299 - 299", "0 - 299"),
                           ("f + 299 + 1", "f + 299"), ("f + 299 + 299 - 298", "f + 299"), ("f + 299 + 299 - 299 - 1", "f + 298")):
            self.in_rule(f"f = {told};", f"f = {line};")

    def test_stops_and_calls(self):
        self.written("part p(t, u) { } part q() { } on a { stop  ; do p( x,y ) ; do q ( ) ; do p(x, x); }",
                     ["part p(t, u) {", "}", "part q() {", "}", "on a {", "  stop;", "  do p(x, y);", "  do q();", "  do p(x, x);", "}"])

    def test_ifs(self):
        self.in_rule("if f=0 { stop; }", "if f = 0 {", "  stop;", "}")
        self.in_rule("if f=0 { stop; } else { }", "if f = 0 {", "  stop;", "}")
        self.in_rule("if f=0 { } else { stop; x=; }", "if f = 0 {", "} else {", "  stop;", "  x =;", "}")
        self.in_rule("if f=0 { x=; } else { y=; } stop;", "if f = 0 {", "  x =;", "} else {", "  y =;", "}", "stop;")
        self.in_rule("if (f=0) { if (true) { } } else { if not (true) { stop; } else { if f<g { } } }", "if f = 0 {", "  if true {",
                     "  }", "} else {", "  if not true {", "    stop;", "  } else {", "    if f < g {", "    }", "  }", "}")

    def test_two_blanks_more_for_each_open_brace(self):
        lines = ["  " * depth + "if true {" for depth in range(7)]
        lines.extend(["  " * 7 + "stop;"] + ["  " * depth + "}" for depth in range(6, -1, -1)])
        self.in_rule("if true {" * 7 + "stop;" + "}" * 7, *lines)
        self.written("part p() { if true { x = ; } }", ["part p() {", "  if true {", "    x =;", "  }", "}"])

    def test_brackets_of_guards(self):
        for told, line in (
                ("(f=0)", "f = 0"), ("((not (f!=0)))", "not f != 0"), ("not(not(f<=0))", "not not f <= 0"), ("not (true)", "not true"),
                ("not (f=0 and g=0)", "not (f = 0 and g = 0)"), ("not (f=0 or g=0)", "not (f = 0 or g = 0)"),
                ("not f=0 and g=0", "not f = 0 and g = 0"), ("(not f=0) and g=0", "not f = 0 and g = 0"),
                ("not (not (f=0 or g=0))", "not not (f = 0 or g = 0)"), ("(f=0 and g=0) and f=1", "f = 0 and g = 0 and f = 1"),
                ("f=0 and (g=0 and f=1)", "f = 0 and (g = 0 and f = 1)"), ("(f=0 or g=0) or f=1", "f = 0 or g = 0 or f = 1"),
                ("f=0 or (g=0 or f=1)", "f = 0 or (g = 0 or f = 1)"), ("(f=0 and g=0) or f=1", "f = 0 and g = 0 or f = 1"),
                ("f=0 or (g=0 and f=1)", "f = 0 or g = 0 and f = 1"), ("(f=0 or g=0) and f=1", "(f = 0 or g = 0) and f = 1"),
                ("f=0 and (g=0 or f=1)", "f = 0 and (g = 0 or f = 1)"), ("f=0 and (not g=0)", "f = 0 and not g = 0"),
                ("(f=0 and (g=0 and f=1)) and g=1", "f = 0 and (g = 0 and f = 1) and g = 1"), ("f>g", "f > g"), ("1>=f", "1 >= f"),
                ("((f=0 or g=0) and f=1) or (g=1)", "(f = 0 or g = 0) and f = 1 or g = 1"), ("299 < 0", "299 < 0"),
                ("not ((f=0 and g=0) or (f=1))", "not (f = 0 and g = 0 or f = 1)")):
            self.written(f"on a when {told} {{ }}", [f"on a when {line} {{", "}"])
            self.written(f"end when {told}: x;", [f"end when {line}: x;"])
            self.in_rule(f"if {told} {{ }}", f"if {line} {{", "}")


def guard_of(digits, many):
    """The text of a guard of so many comparisons, with brackets round everything."""
    ahead = "not " * (digits.take(3) == 0)
    if many == 1:
        return ahead + ("(true)", "f = 0", "(0 < g)")[digits.take(3)]
    first = 1 + digits.take(many - 1)
    sign = (" and ", " or ")[digits.take(2)]
    return ahead + "(" + guard_of(digits, first) + sign + guard_of(digits, many - first) + ")"


def bracket_pairs(text):
    """The pairs of the places of brackets that belong together."""
    opened, found = [], []
    for place, sign in enumerate(text):
        if sign == "(":
            opened.append(place)
        elif sign == ")":
            found.append((opened.pop(), place))
    return found


class ReadAgain(unittest.TestCase):
    def test_guards_have_as_few_brackets_as_read_the_same(self):
        seen = set()
        for number in range(600):
            guard = guard_of(Digits(number), 1 + number % 4)
            script = read_script(HEAD + f"end when {guard}: x;")
            text = write_script(script)
            self.assertEqual(read_script(text), script)
            self.assertEqual(write_script(read_script(text)), text)
            pairs = bracket_pairs(text)
            for many in range(1, len(pairs) + 1):
                for gone in itertools.combinations(pairs, many):
                    places = {place for pair in gone for place in pair}
                    fewer = "".join(sign for place, sign in enumerate(text) if place not in places)
                    self.assertNotEqual(read_script(fewer), script, (text, fewer))
            seen.add(text)
        self.assertGreater(len(seen), 200)

    def test_made_ones(self):
        for number in range(300):
            script = read_script(script_text(counted_script(number, "ab" if number % 2 else "anyb")))
            text = write_script(script)
            self.assertEqual(read_script(text), script)
            self.assertEqual(write_script(read_script(text)), text)

    def test_the_script_is_not_changed(self):
        text = script_text(counted_script(3))
        script = read_script(text)
        write_script(script)
        self.assertEqual(script, read_script(text))

    def test_what_is_no_script(self):
        for wrong in (None, "letters a;", 1, ["letters a;"], True):
            with self.assertRaises(BadScript):
                write_script(wrong)

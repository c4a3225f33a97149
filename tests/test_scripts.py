"""Point [25]: which texts are scripts, what they tell, and which scripts are equal."""

import unittest

from passtexts.errors import BadText, PassError, TooLarge
from passtexts.scripts import BadScript, Script, read_script
from passtexts.scriptwriting import write_script
from passtexts.values import word_of
from tests.scripts_made import counted_script, script_text

RESERVED = "letters counter text part on when any end none if else do stop and or not true".split()
HEAD = "letters ab; counter f 2; counter g 3; text x; text y; "
PUT = "part put(t, u) { t = t u; } "


def rule(statements, head=HEAD):
    """A script of one rule with these statements."""
    return read_script(head + "on any { " + statements + " }")


def guarded(guard):
    """A script of one rule with this guard."""
    return read_script(HEAD + "on any when " + guard + " { }")


def names(many):
    """So many names that are no words of scripts, nor those of HEAD."""
    told = [word_of(number) for number in range(26, 2000)]
    return [name for name in told if name not in RESERVED][:many]


class WhatItTells(unittest.TestCase):
    def test_all_of_it(self):
        script = read_script(
            'letters b0a;\ncounter f 2; text x "ab"; counter g 299; text y; text z "";\n'
            'part mark(t, u) { t = "a" t; f = g + 1 - 3; }\npart no() { }\n'
            'on ab when f = 0 { if f < 2 { x = "a" x y; } else { do mark(x, y); } }\non any { do no(); stop; }\n'
            'end when f > 1: x "1" y;\nend: none;')
        self.assertIsInstance(script, Script)
        self.assertEqual((script.letters, len(script)), ("0ab", 2))
        self.assertEqual(script.counters, {"f": 2, "g": 299})
        self.assertEqual(script.texts, {"x": "ab", "y": "", "z": ""})
        self.assertEqual((list(script.counters), list(script.texts)), (["f", "g"], ["x", "y", "z"]))

    def test_the_least_script(self):
        script = read_script("letters a;")
        self.assertEqual((script.letters, script.counters, script.texts, len(script)), ("a", {}, {}, 0))

    def test_counters_and_texts_in_any_order(self):
        told = ["counter f 2;", 'text x "a";', "counter g 0;", "text y;"]
        scripts = [read_script("letters a; " + " ".join(told[turn:] + told[:turn])) for turn in range(4)]
        for script in scripts:
            self.assertEqual(script, scripts[0])
            self.assertEqual(script.counters, {"f": 2, "g": 0})
            self.assertEqual(script.texts, {"x": "a", "y": ""})

    def test_the_greatest_numbers(self):
        told = names(200)
        lines = ["letters dcba;"]
        lines.extend(f"counter {name} 299;" for name in told[:6])
        lines.extend(f"text {name};" for name in told[6:66])
        lines.extend(f"part {name}(t) {{ t = ; }}" for name in told[66:86])
        lines.extend(f"on a when {told[0]} = {number} {{ }}" for number in range(60))
        lines.extend("end: none;" for _ in range(60))
        script = read_script("\n".join(lines))
        self.assertEqual((len(script.counters), len(script.texts), len(script)), (6, 60, 60))
        self.assertEqual(read_script(write_script(script)), script)
        for number, word in ((7, "counter"), (67, "text"), (87, "part")):
            more = {7: "counter zzz 1;", 67: "text zzz;", 87: "part zzz() { }"}[number]
            with self.assertRaises(BadText) as caught:
                read_script("\n".join(lines[:number] + [more] + lines[number:]))
            self.assertEqual((caught.exception.line, caught.exception.column), (number + 1, 1), word)
        for place, more in ((147, "on a { }"), (len(lines), "end: ;")):
            with self.assertRaises(BadText) as caught:
                read_script("\n".join(lines[:place] + [more] + lines[place:]))
            self.assertEqual((caught.exception.line, caught.exception.column), (place + 1, 1))

    def test_names_of_1_and_of_8_letters(self):
        script = read_script("letters a; counter a 1; text abcdefgh; part b(zzzzzzzz) { zzzzzzzz = zzzzzzzz abcdefgh; } "
                             "on a { abcdefgh = abcdefgh abcdefgh; do b(abcdefgh); } end when a = 0: abcdefgh;")
        self.assertEqual(read_script(write_script(script)), script)

    def test_words_of_scripts_are_no_names(self):
        for name in RESERVED:
            for told in (f"letters a; counter {name} 1;", f"letters a; text {name};", f"letters a; part {name}() {{ }}",
                         f"letters a; part p({name}) {{ }}", f"letters a; part p(t, {name}) {{ }}"):
                with self.assertRaises(BadText) as caught:
                    read_script(told)
                self.assertEqual((caught.exception.line, caught.exception.column), (1, told.rindex(name) + 1), told)
            for near in (name + "x", "x" + name, name + name[-1]):
                if near not in RESERVED and len(near) <= 8:
                    script = read_script(f"letters a; counter {near} 1; on a {{ {near} = {near} + 1; }} end when {near} = 1: ;")
                    self.assertEqual(script.counters, {near: 1})

    def test_numbers_up_to_299(self):
        script = read_script("letters a; counter n 299; on a when n < 299 { n = n + 299 - 299 + 0; n = 299 - 0; }")
        self.assertEqual(script.counters, {"n": 299})

    def test_blanks_line_feeds_and_remarks(self):
        close = ('letters ab;counter f 2;text x"ab";part p(t,u){t="a"t u;f=f+1-2;stop;}on ab when f=0 and not(f<1){if f!=1{'
                 'do p(x,x);}else{x=;}}end when true:x"1"x;end:none;')
        wide = ('# head\n\n letters \n ab # ; letters a;\n ;counter\nf\n2 ; text x # "a"\n "ab" ; part p ( t , u ) { t = "a" t u '
                '; f = f + 1 - 2 ; stop ; } on\nab\nwhen f\n=\n0 and not ( f < 1 ) { if f != 1 { do p ( x , x ) ; } '
                'else\n{ x = ; } } end when true : x "1" x ; end : none ;\n\n#')
        self.assertEqual(read_script(close), read_script(wide))
        self.assertEqual(len(read_script(close)), 1)
        self.assertEqual(read_script("\n".join(write_script(read_script(close)).split(" "))), read_script(close))

    def test_words_of_scripts_may_be_letters_of_rules(self):
        for letters in ("on", "end", "any", "not", "do", "if", "when", "text", "none", "true", "or"):
            if len(set(letters)) == len(letters):
                script = read_script(f"letters {letters}; on {letters} {{ }} on {letters[0]} when true {{ }}")
                self.assertEqual(read_script(write_script(script)), script)
        self.assertEqual(read_script("letters whe; on when when true { } ".replace("whe;", "when;")),
                         read_script("letters when; on any { }"))

    def test_any_is_all_letters_also_where_there_are_others_than_a_n_y(self):
        head = "letters anyx; text t; "
        self.assertEqual(read_script(head + "on any { t = ; }"), read_script(head + "on xyna { t = ; }"))
        self.assertNotEqual(read_script(head + "on any { t = ; }"), read_script(head + "on nya { t = ; }"))

    def test_parts_call_parts_ahead_and_name_texts_and_counters_of_the_script(self):
        script = read_script(HEAD + PUT + "part more(v) { do put(v, x); do put(v, v); f = g; if f = 0 { x = v y; } } "
                             "on a { do more(y); }")
        self.assertEqual(read_script(write_script(script)), script)

    def test_the_same_own_names_in_several_parts(self):
        self.assertEqual(len(read_script(HEAD + PUT + "part set(t, u) { u = t; } on a { do set(x, y); }")), 1)

    def test_what_is_read_is_new(self):
        text = HEAD + PUT + "on a { x = ; }"
        one, other = read_script(text), read_script(text)
        for part in ("counters", "texts"):
            self.assertIsNot(getattr(one, part), getattr(other, part))
        one.counters["f"] = 7
        one.texts["z"] = "a"
        del one.counters["g"]
        self.assertEqual(read_script(text), other)
        self.assertEqual((other.counters, other.texts), ({"f": 2, "g": 3}, {"x": "", "y": ""}))

    def test_errors(self):
        self.assertEqual(BadScript.__bases__, (PassError,))
        self.assertEqual(TooLarge.__bases__, (PassError,))


class EqualOnes(unittest.TestCase):
    def same(self, one, other):
        self.assertTrue(one == other)
        self.assertFalse(one != other)

    def unlike(self, one, other):
        self.assertFalse(one == other)
        self.assertTrue(one != other)

    def test_other_things(self):
        for thing in (None, "letters a;", 1, [], ("a", {}, {})):
            self.unlike(read_script("letters a;"), thing)

    def test_letters_counters_and_texts(self):
        self.same(read_script("letters ab;"), read_script("letters ba;"))
        self.same(read_script("letters a; counter f 1; counter g 2;"), read_script("letters a; counter g 2; counter f 1;"))
        self.same(read_script("letters a; text x; counter f 1;"), read_script('letters a; counter f 1; text x "";'))
        base = 'letters ab; counter f 1; text x "a";'
        for other in ("letters a; counter f 1; text x \"a\";", base + " counter g 1;", base + " text y;",
                      base.replace("f 1", "f 2"), base.replace("counter f", "counter g"), base.replace('"a"', '"b"'),
                      base.replace('"a"', ""), base.replace("text x", "text y"), base + " on a { }", base + " end: ;",
                      base + " part p() { }", "letters abc; counter f 1; text x \"a\";"):
            self.unlike(read_script(base), read_script(other))

    def test_the_order_of_parts_rules_and_ends(self):
        for one, other in (("part p() { } ", "part q() { } "), ("on a { } ", "on b { } "), ("on a { } ", "on a { x = ; } "),
                           ("end: x; ", "end: y; "), ("end: none; ", "end: ; ")):
            self.same(read_script(HEAD + one + other), read_script(HEAD + one + other))
            self.unlike(read_script(HEAD + one + other), read_script(HEAD + other + one))
            self.unlike(read_script(HEAD + one + other), read_script(HEAD + one))

    def test_the_letters_of_a_rule(self):
        self.same(read_script(HEAD + "on ab { }"), read_script(HEAD + "on ba { }"))
        self.same(read_script(HEAD + "on ab { }"), read_script(HEAD + "on any { }"))
        self.unlike(read_script(HEAD + "on a { }"), read_script(HEAD + "on any { }"))
        self.unlike(read_script(HEAD + "on a { }"), read_script(HEAD + "on b { }"))
        self.unlike(read_script(HEAD + "on a { } on b { }"), read_script(HEAD + "on any { }"))

    def test_no_guard_is_true(self):
        self.same(read_script(HEAD + "on a { } end: x;"), read_script(HEAD + "on a when true { } end when true: x;"))
        self.same(read_script(HEAD + "on a { } end: x;"), read_script(HEAD + "on a when (true) { } end when ((true)): x;"))
        self.unlike(read_script(HEAD + "on a { }"), read_script(HEAD + "on a when not not true { }"))
        self.unlike(read_script(HEAD + "on a { }"), read_script(HEAD + "on a when 0 = 0 { }"))
        self.unlike(read_script(HEAD + "end: x;"), read_script(HEAD + "end when true and true: x;"))

    def test_numbers_added(self):
        for one, other in (("f + 1 + 1", "f + 2"), ("f + 3 - 1", "f + 2"), ("f - 1 + 3", "f + 2"), ("f + 0", "f"), ("f - 0", "f"),
                           ("f - 2 + 2", "f"), ("f + 299 + 1", "f + 299"), ("f + 299 + 299 + 299", "f + 299"),
                           ("f - 299 - 1", "f - 299"), ("f + 299 + 299 - 299", "f + 299"), ("1 + 0", "1"), ("1 + 2 - 1", "1 + 1"),
                           ("f - 299 - 299 + 299", "f - 299"), ("f + 299 + 2 - 3", "f + 298")):
            self.same(rule(f"g = {one};"), rule(f"g = {other};"))
        for one, other in (("f + 1", "f + 2"), ("f + 1", "f - 1"), ("f", "g"), ("1 + 2", "3"), ("1 + 2", "2 + 1"), ("0 + 3", "3"),
                           ("f + 299", "f + 298"), ("f - 299", "f - 298"), ("2 - 2", "0"), ("f + 299 + 299 - 300 + 1 ", "f + 299")):
            if "300" not in one:
                self.unlike(rule(f"g = {one};"), rule(f"g = {other};"))
        self.unlike(rule("g = f;"), rule("f = f;"))

    def test_an_empty_else(self):
        self.same(rule("if f = 0 { x = ; }"), rule("if f = 0 { x = ; } else { }"))
        self.same(rule("if f = 0 { }"), rule("if f = 0 { } else { }"))
        self.same(rule("if f = 0 { if g = 0 { } else { } }"), rule("if f = 0 { if g = 0 { } }"))
        self.unlike(rule("if f = 0 { } else { x = ; }"), rule("if f = 0 { x = ; } else { }"))
        self.unlike(rule("if f = 0 { x = ; }"), rule("x = ;"))
        self.unlike(rule("if f = 0 { } else { if true { } }"), rule("if f = 0 { }"))
        self.unlike(rule("if f = 0 { }"), rule(""))

    def test_guards_as_trees(self):
        for one, other in (("(f = 0)", "f = 0"), ("((f = 0))", "f = 0"), ("not (f = 0)", "not f = 0"),
                           ("not (not (f = 0))", "not not f = 0"), ("(f = 0 and g = 0) and f = 1", "f = 0 and g = 0 and f = 1"),
                           ("(f = 0 or g = 0) or f = 1", "f = 0 or g = 0 or f = 1"),
                           ("(f = 0 and g = 0) or f = 1", "f = 0 and g = 0 or f = 1"),
                           ("f = 0 or (g = 0 and f = 1)", "f = 0 or g = 0 and f = 1"),
                           ("((f = 0 and f = 1) and f = 2) and true", "f = 0 and f = 1 and f = 2 and true"),
                           ("(not f = 0) and (not g = 0)", "not f = 0 and not g = 0")):
            self.same(guarded(one), guarded(other))
        told = ("f = 0", "g = 0", "0 = f", "f = 1", "f != 0", "f < 0", "f <= 0", "f > 0", "f >= 0", "true", "not f = 0", "not true",
                "not not f = 0", "f = 0 and g = 0", "g = 0 and f = 0", "f = 0 or g = 0", "f = 0 and g = 0 and f = 1",
                "f = 0 and (g = 0 and f = 1)", "f = 0 or g = 0 or f = 1", "f = 0 or (g = 0 or f = 1)",
                "f = 0 and g = 0 or f = 1", "f = 0 and (g = 0 or f = 1)", "f = 0 or g = 0 and f = 1", "(f = 0 or g = 0) and f = 1",
                "not (f = 0 and g = 0)", "not f = 0 and g = 0", "not (f = 0 or g = 0)", "f = 0 and true", "f = 0 and f = 0")
        for number, one in enumerate(told):
            for other in told[number + 1:]:
                self.unlike(guarded(one), guarded(other))

    def test_rows_as_they_are_read(self):
        for one, other in (('"a" "b"', '"ab"'), ('"" x', "x"), ('""', ""), ("x y", "y x"), ("x", '"x"'), ('x "a"', '"a" x'),
                           ("x x", "x")):
            self.unlike(rule(f"x = {one};"), rule(f"x = {other};"))
            self.unlike(read_script(HEAD + f"end: {one};"), read_script(HEAD + f"end: {other};"))
        self.same(rule('x = "a"x"b";'), rule('x="a" x   "b" ;'))
        self.unlike(rule("x = y;"), rule("y = y;"))

    def test_ends(self):
        self.unlike(read_script(HEAD + "end: none;"), read_script(HEAD + "end: ;"))
        self.unlike(read_script(HEAD + "end: none;"), read_script(HEAD))
        self.unlike(read_script(HEAD + "end when f = 0: x;"), read_script(HEAD + "end: x;"))

    def test_parts_and_calls(self):
        base = HEAD + PUT + "on a { do put(x, y); }"
        self.same(read_script(base), read_script(base))
        for old, new in (("t u", "u t"), ("(t, u) { t = t u", "(u, t) { u = u t"), ("(x, y)", "(y, x)"), ("(x, y)", "(x, x)"),
                         ("put", "set"), (" do put(x, y);", " x = x y;"), ("t = t u;", "t = t u; stop;")):
            self.unlike(read_script(base), read_script(base.replace(old, new)))

    def test_statements(self):
        told = ("", "stop;", "stop; stop;", "x = ;", "x = ; stop;", "stop; x = ;", "f = 0;", "g = 0;", "f = g;", "if true { stop; }",
                "if true { } else { stop; }", "if f = 0 { stop; }", "if true { stop; stop; }", "if true { } stop;")
        for number, one in enumerate(told):
            for other in told[number + 1:]:
                self.unlike(rule(one), rule(other))

    def test_made_ones(self):
        scripts = [read_script(script_text(counted_script(number))) for number in range(0, 300, 7)]
        for number, one in enumerate(scripts):
            self.same(one, read_script(script_text(counted_script(number * 7))))
            for other in scripts[number + 1:]:
                self.assertEqual(one == other, write_script(one) == write_script(other))


class Sizes(unittest.TestCase):
    def too_large(self, text):
        with self.assertRaises(TooLarge):
            read_script(text)

    def test_1000_statements(self):
        for head in ("on a { ", "part p() { "):
            self.assertIsInstance(read_script("letters a; " + head + "stop; " * 1000 + "}"), Script)
            self.too_large("letters a; " + head + "stop; " * 1001 + "}")

    def test_statements_within_ifs_count(self):
        for told in ("if true { stop; } ", "if true { } else { stop; } ", "if true { stop; } else { } "):
            self.assertIsInstance(read_script("letters a; on a { " + told * 500 + "}"), Script)
            self.too_large("letters a; on a { " + told * 500 + "stop; }")
        told = "if true { if true { stop; stop; } else { stop; } } "
        self.assertIsInstance(read_script("letters a; on a { " + told * 200 + "}"), Script)
        self.too_large("letters a; on a { " + told * 200 + "if true { } }")

    def test_calls_count_and_what_is_called_for_each_call(self):
        parts = "letters a; part p() { " + "stop; " * 9 + "} part q() { do p(); do p(); stop; } "
        self.assertIsInstance(read_script(parts + "on a { " + "do p(); " * 100 + "}"), Script)
        self.too_large(parts + "on a { " + "do p(); " * 100 + "stop; }")
        # q has 3 statements and twice 9 of p, and the call itself is one more
        self.assertIsInstance(read_script(parts + "on a { " + "do q(); " * 45 + "do p(); }"), Script)
        self.too_large(parts + "on a { " + "do q(); " * 45 + "do p(); stop; }")
        self.too_large(parts + "part r() { " + "do q(); " * 46 + "}")
        self.too_large(parts + "part r() { if true { " + "do q(); " * 46 + "} }")

    def test_calls_that_double(self):
        lines = ["letters a; text x; part aa(t) { t = t; }"]
        for number in range(1, 20):
            name, called = word_of(26 + number), word_of(25 + number)
            lines.append(f"part {name}(t) {{ do {called}(t); do {called}(t); }}")
        # 1, 4, 10 and so on: twice as many and two calls
        self.assertIsInstance(read_script("\n".join(lines[:9])), Script)
        self.too_large("\n".join(lines[:10]))
        self.too_large("\n".join(lines))

    def test_the_own_braces_of_parts_do_not_count(self):
        def nested(many, inner):
            return "if true { " * many + inner + " }" * many

        deep = f"letters a; part p() {{ {nested(3, 'stop;')} }} "
        self.assertIsInstance(read_script(deep + f"on a {{ {nested(4, 'do p();')} }}"), Script)
        self.too_large(deep + f"on a {{ {nested(5, 'do p();')} }}")
        self.too_large(deep + f"part q() {{ {nested(5, 'do p();')} }}")
        self.assertIsInstance(read_script(deep + f"part q() {{ {nested(2, 'do p();')} }} on a {{ {nested(2, 'do q();')} }}"),
                              Script)
        self.too_large(deep + f"part q() {{ {nested(2, 'do p();')} }} on a {{ {nested(3, 'do q();')} }}")
        self.assertIsInstance(read_script(f"letters a; part p() {{ }} on a {{ {nested(7, 'do p();')} }}"), Script)
        self.too_large(f"letters a; part p() {{ if true {{ }} }} on a {{ {nested(7, 'do p();')} }}")
        self.too_large(f"letters a; part p() {{ if true {{ stop; }} else {{ }} }} on a {{ {nested(7, 'do p();')} }}")

    def test_bad_texts_come_first(self):
        with self.assertRaises(BadText):
            read_script("letters a; on a { " + "stop; " * 1001 + "} on b { }")
        with self.assertRaises(BadText):
            read_script("letters a; on a { " + "stop; " * 1001)
        with self.assertRaises(BadText):
            read_script("letters a; on a { " + "stop; " * 1001 + "} end: none; ?")

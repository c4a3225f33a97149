"""Point [25]: where the text of a script is refused, and with what."""

import unittest

from passtexts.errors import BadText, TooLarge
from passtexts.scripts import read_script
from tests.marked import marked
from tests.scripts_made import counted_script, script_text

HEAD = "letters ab; counter f 2; counter g 3; text x; text y; "
PUT = "part put(t, u) { t = t u; } part no() { } "

# in all of these the sign @ stands ahead of the piece that is refused
LETTERS = """
    @|@ab|@letter a;|@letters1 a;|@;|@counter f 2;|@text x;|@on a { }|@?|@"letters"|@Letters a;|letters@|letters  # a@
    letters @;|letters @"a";|letters @abcde;|letters @aba;|letters @aa;|letters @A;|letters a@|letters a @b;|letters a@B;
    letters ab @,|letters ab @: |letters a @counter f 1;|letters ab; @ab;|letters a; @letters b;|letters a; @;|letters a; @"
    letters a@.|letters a; @{|letters a; @}|letters a; @if|letters a; @x = ;|letters a; @stop;|letters a; @do p();
    letters a; @else|letters a; @any|letters a; @none;|letters a; @when|letters a; @0|letters a; @not|letters a; @parts
"""
COUNTERS = """
    counter@|counter @;|counter @1 f;|counter @f1 1;|counter @1f 1;|counter @F 1;|counter @"f" 1;|counter @abcdefghi 1;
    counter n@|counter n @;|counter n @m;|counter n @n;|counter n @300;|counter n @00;|counter n @01;|counter n @1000;
    counter n @-1;|counter n @"1";|counter n @1a;|counter n @= 1;|counter n 1@|counter n 1 @2;|counter n 1@,|counter n 1 @m 2;
    counter n 1@.|counter @f 1;|counter @g 2;|counter @x 1;|counter n 1; counter @n 1;|@counters n 1;|@count n 1;
    counter n 1; text @n;|counter n 1; @n = 1;|counter n 1 @
"""
TEXTS = """
    text@|text @;|text @"a";|text @1;|text @x1;|text @X;|text @abcdefghi;|text z@|text z @a;|text z @= "a";|text z @1;
    text z "a"@|text z "a" @"b";|text z "a" @b;|text z "a"@,|text z @"a;|text z @"|text z @"aB";|text z @"a b";|text z @"a#";
    text z @'a';|text @x;|text @y "a";|text @f;|text @g "a";|text z; text @z;|@texts z;|text z; counter @z 1;
    text z @"-";|text z "a" @+ "b";|text z @x;
"""
PARTS = """
    part@|part @;|part @(|part @1() { }|part @p1() { }|part @P() { }|part @abcdefghi() { }|part @"p"() { }|part @f() { }
    part @x() { }|part @put() { }|part @t() { }|part @u() { }|part p@|part p @;|part p @{ }|part p @t) { }|part p @: () { }
    part p(@|part p(@;|part p(@, t) { }|part p(@1) { }|part p(@"t") { }|part p(@{ }|part p(@( ) { }|part p(@T) { }
    part p(t@|part p(t@;|part p(t @u) { }|part p(t@: u) { }|part p(t@{|part p(t, @|part p(t, @) { }|part p(t, @, u) { }
    part p(t, @t) { }|part p(t, u, @t) { }|part p(@f) { }|part p(@x) { }|part p(t, @y) { }|part p(@put) { }|part p(@p) { }
    part p(t, @abcdefghi) { }|part p(t, @u1) { }|part p(t)@|part p(t) @;|part p(t) @}|part p(t) @t = ;|part p() @( ) { }
    part p() {@|part p() { @;|part p() { } @;|part p() { } @}|part p() { } @{ }|part p() { }@.|part p() { do @p(); }
    part p(t) { @u = ; }|part p(t) { t = @u; }|part p() { @t = ; }|part p() { do @p(); }|part p() { do @q(); } part q() { }
    part p() { } @counter n 1;|part p() { } @text z;|part p() { } @letters a;|part p() { } part @p() { }
    part p(v) { } part @v() { }|part p(v, w) { } part q(v) { } part @w() { }|@parts p() { }|part p(q) { } part @q() { }
    part p(q, @p) { }
"""
RULES = """
    on@|on @;|on @{ }|on @when true { }|on @abc { }|on @c { }|on @aa { }|on @aba { }|on @"a" { }|on @A { }|on @1 { }
    on @anyx { }|on @all { }|on a@|on a @;|on a @b { }|on a@, b { }|on a @}|on a @x = ;|on a @: { }|on a@B { }
    on a when@|on a when @{ }|on a @true { }|on a @if true { }|on a when@: { }|on a when true@|on a when true @;
    on a when true @x = ;|on a when true @}|on a {@|on a { x = ;@|on a { } @}|on a { } @;|on a { } @, b { }|on a { } @else { }
    on a { } @counter n 1;|on a { } @text z;|on a { } @part p() { }|on a { } @letters a;|on a { } @x = ;|on a { } on @c { }
    on a { @on b { } }|on a { @end: ; }|on any @a { }|on any@, a { }|@ons a { }|on a @on { }|on a { }@.
"""
STATEMENTS = """
    @|@;|@|@{ }|@z = ;|@t = ;|@put = ;|@put(x, y);|@1 = 1;|@"a" = x;|@= x;|@else { }|@when true { }|@any { }|@none;|@and
    @not true;|@true;|@x1 = ;|@X = ;|@part p() { }|@counter n 1;|@text z;|@(|@)|@, x = ;|@?|@stops;|@+ 1|@letters a;
    stop@|stop @x;|stop @}|stop@();|stop @stop;|stop@, stop;|stop; @;|x@|x @;|x @x;|x @"a";|x @: x;|x @!= y;|x @}|x @+ y;
    x =@|x = @}|x = @z;|x = @1;|x = @f;|x = x @f;|x = @= y;|x = x @, y;|x = @none;|x = @put;|x = @"a;|x = @"aB";|x = x @"
    x = x y @= ;|x = x @{ }|x = @(x);|x = x @+ y;|x = x @stop;|x = "a" @"b c";|x = x@:|x = "a" y @z;|x = x @X;|x = @t;
    x = x@.|x = y @"a#";|f@|f @;|f @1;|f @!= 1;|f =@|f = @;|f = @x;|f = @"1";|f = @300;|f = @01;|f = @- 1;|f = @+ 1;|f = @h;
    f = @put;|f = @true;|f = 1@|f = 1 @1;|f = 1 @g;|f = g @g;|f = g@, 1;|f = g @}|f = g +@|f = g + @;|f = g + @g;|f = g + @f;
    f = g + @300;|f = g - @00;|f = g - @x;|f = g + @+ 1;|f = g - @- 1;|f = g + 1@|f = g + 1 @2;|f = g + 1 @}|f = g + 1 @g;
    f = g @* 2;|f = 1 + @"1";|f = g + 1 - @;|f = @(g);|f = g + 1@.
"""
IFS = """
    if@|if @{ }|if @;|if true@|if true @;|if true @x = ;|if true {@|if true { @;|if true { @else { } }|if true { } @;
    if true { } else@|if true { } else @;|if true { } else @if true { }|if true { } else @x = ;|if true { } else {@
    if true { } else { } @else { }|if true { } else { } @;|if true { } @elses { }|if true { } @else1 { }|if true { @z = ; }
    if true { } else { @z = ; }|if true { x = @z; }|if true { stop @} }|if true@, { }|if true { } @, x = ;|if true { } @)
"""
CALLS = """
    do@|do @;|do @x(x);|do @f();|do @putt(x, y);|do @1();|do @"put"(x, y);|do @(x);|do @p();|do @do put(x, y);|do put@
    do put @;|do put @x, y;|do put @{ }|do put(@|do put(@);|do put(@;|do put(@, x);|do put(@f, y);|do put(@"a", x);|do put(@t, x);
    do put(@z, x);|do put(@1, x);|do put(@put, x);|do put(x@|do put(x@);|do put(x@;|do put(x @y);|do put(x@: y);|do put(x, @
    do put(x, @);|do put(x, @, y);|do put(x, @f);|do put(x, y@|do put(x, y@, x);|do put(x, y@;|do put(x, y @x);|do put(x, @z);
    do put(x, y)@|do put(x, y) @x = ;|do put(x, y) @}|do put(x, y)@, x = ;|do no @;|do no(@|do no(@x);|do no(@;|do no(@, );
    do no(@() );|do no()@|do no() @do no();|do no();@|do no(); @;|do put(@(x, y));|do put(@(x, y);|do no() @{ }|do no(@f);
"""
GUARDS = """
    @|@and true|@or true|@)|@=|@= 1|@x = 1|@x|@"a" = 1|@300 = 1|@01 = 1|@h = 1|@put = 1|@any|@none|@;|@:|@- 1 = 1|@+ 1 = 1
    @!|@! = 1|@true1|@nots true|@f1 = 1|f@|f @and true|f @)|f @1|f @f|f @: 1|f @! 1|f @"a"|f @;|f @+ 1 = 1|f =@|f = @;|f = @)
    f = @x|f = @300|f = @00|f = @"1"|f = @= 1|f = @true|f = @not true|f = @(1)|f = @- 1|f = @h|f = @and true|f = @< 1|f < @= 1
    f > @= 1|f <= @= 1|f >= @> 1|f @! = 1|f != @! 1|f =@! 1|f = 1 @1|f = 1 @f|f = 1 @= 1|f = 1 @not true|f = 1 @true
    f = 1 @)|f = 1 @+ 1|f = 1 @"a"|f = 1 @x|f = 1 @(true)|f = 1 @< 2|true @= 1|true @true|true @1|true @not true|true @(true)
    true @)|true @f = 1|not@|not @)|not @and|not @or true|not @x|not f@|not f @)|not f =@|not true @true|not true @not true
    not @= 1|(@|(@)|(@and|(@x|(true@|(true @true)|(true @;|(true@, true)|(f@)|(f =@)|(f = 1@|(f = 1 @f)|(true) @true|(true) @)
    (true) @(true)|(true)@= 1|(f@) = 1|((true)@|((true) @;|(true or@)|(true or @|(true and @and true)|true and@|true and @)
    true and @or true|true and @and true|true and @x|true or@|true or @)|true or @or true|true or @and true|true or @"a"
    true and not@|true and not @or true|true and (@)|true or (true @x)|true@, true|true @& true|true @&& true|f =@== 1
    true and true @x|true or true and @or true|true or true @)|not not @)|(true and true)@)
"""
ENDS = """
    end@|end @;|end @x;|end @none;|end @{ }|end @"a";|end @true: x;|end @on a: x;|end @, x;|end when@|end when @: x;
    end when true@|end when true @;|end when true @x;|end when true @{ }|end:@|end: @:|end: x@|end: @}|end: @f;|end: @z;
    end: @1;|end: @t;|end: @put;|end: x @none;|end: none@|end: none @x;|end: none @none;|end: none@:|end: @"a;|end: @"aB";
    end: x @= y;|end: x@, y;|end: x @end: y;|end: x @on a { }|end: @{ x; }|end: @nones;|end: x; @;|end: x; @x;|end: x; @}
    end: x; @on a { }|end: x; @counter n 1;|end: x; @text z;|end: x; @part p() { }|end: x; @letters a;|end: x; @end1: x;
    end: x; @ends: x;|end: x; @stop;|end: x@.|end: x "a" @"b#";|end: x "a" y @X|end: "a" @'b'|end: x; end@|end when f @: x;
"""


def told_in(head, table, behind=""):
    """The texts of a table, each with a head ahead of it."""
    return [head + told.lstrip() + behind for line in table.split("\n") if line.strip()
            for told in line.strip("\n").split("|")]


FAULTS = told_in("", LETTERS) + told_in(HEAD, COUNTERS) + told_in(HEAD, TEXTS) + told_in(HEAD + PUT, PARTS)
FAULTS.extend(told_in(HEAD + PUT, RULES) + told_in(HEAD + PUT + "on b { }\n", RULES) + told_in(HEAD + PUT, ENDS))
FAULTS.extend(told_in(HEAD + PUT + "on a { }\nend when f = 0: none;\n# end\n", ENDS))
for ahead in ("on a { ", "on any when f = 1 {\n  stop; # @\n  x = x;\n ".replace("@", ""), "part last(v, w) { v = w; ",
              "on b { if f = 0 { ", "on b { if f = 0 { } else { ", "part last() { do no();\n do put(x, x); "):
    for statements in (STATEMENTS, IFS, CALLS):
        FAULTS.extend(told_in(HEAD + PUT + ahead, statements))
GUARDED = (("on a when ", " { }"), ("on a { if ", " { } }"), ("end when ", ": x;"), ("part last() { if ", " { } else { } }"))


def fits(told):
    """Whether the end of a text is refused, or something that comes sooner."""
    return told.endswith("@")


class Refused(unittest.TestCase):
    def place_of(self, text):
        with self.assertRaises(BadText, msg=repr(text)) as caught:
            read_script(text)
        return caught.exception.line, caught.exception.column

    def check(self, told):
        with self.subTest(told):
            text, place = marked(told)
            self.assertEqual(self.place_of(text), place)

    def test_the_first_piece_that_cannot_stand_there(self):
        self.assertGreater(len(FAULTS), 1500)
        for told in FAULTS:
            self.check(told)

    def test_guards(self):
        for head, behind in GUARDED:
            for told in told_in(HEAD + head, GUARDS):
                self.check(told)
                if not fits(told):
                    self.check(told + behind)

    def test_what_comes_behind_a_guard_that_ends_too_early(self):
        for head, behind in GUARDED:
            for told in ("", "not ", "(", "f ", "f = ", "true and ", "true or not ", "(true", "(true or ", "not (f < 1 and f "):
                self.check(HEAD + head + told + "@" + behind.lstrip())

    def test_the_first_fault_of_several_counts(self):
        for told in told_in(HEAD + PUT + "on a { ", CALLS) + told_in(HEAD + "end when ", GUARDS):
            if not fits(told):
                for rest in (" ?", "\n \"", " }}}", "\nletters a;", " stop" * 1001):
                    self.check(told + rest)


class PlacesOfFaults(unittest.TestCase):
    def place_of(self, text):
        with self.assertRaises(BadText, msg=repr(text)) as caught:
            read_script(text)
        return caught.exception.line, caught.exception.column

    def test_lines_and_columns(self):
        for told in ("\n\n letters a;\n\n  @?", "# letters\nletters a; # ?\n@b", "letters a;\n   on\n   @c { }", "letters\n\n@B",
                     "letters a; on a {\n@", "letters a; on a { # }@", "letters a; on a {  @",
                     "letters a; on a {\n  # }\n@", "letters a; on a {\n  # }\n  # }@", "letters a\n\n@", "\n\n@", "  @", "#@"):
            text, place = marked(told)
            self.assertEqual(self.place_of(text), place, told)

    def test_a_sign_that_begins_nothing_at_each_place(self):
        text = ('letters ab ; counter f 2 ; text x "ab" ; part p ( t , u ) { t = "a" t ; f = f + 1 - 2 ; stop ; } on ab when f = 0 '
                'and not ( f < 1 or true ) { if f != 1 { do p ( x , x ) ; } else { x = ; } } end when true : x "1" x ; end : none ;')
        read_script(text)
        places = [place for place in range(len(text)) if text[place] == " "] + [len(text)]
        for place in places:
            for sign in ("?", "\t", "A", "@", "\u00e9", "\r", "!", "'", "\x0b", "\u0660", '"', '"x y"', '"A"', '"\n"', "&", "["):
                wrong = text[:place] + " " + sign + text[place:]
                self.assertEqual(self.place_of(wrong), (1, place + 2), wrong)
                wrong = text[:place] + "\n" + sign + text[place:]
                self.assertEqual(self.place_of(wrong), (2, 1), wrong)

    def test_a_text_that_ends_too_early_at_each_place(self):
        text = script_text(counted_script(11))
        read_script(text)
        whole = (";", "}")
        for place in range(len(text)):
            cut = text[:place].rstrip(" \n")
            if text[place] in " \n" and not cut.endswith(whole):
                for rest in ("", " ", "\n", "\n\n  ", " # remark", "\n# remark"):
                    told, end = marked(cut + rest + "@")
                    self.assertEqual(self.place_of(told), end, told)

    def test_what_is_no_string(self):
        for wrong in (None, 1, b"letters a;", ["letters a;"], read_script("letters a;"), True):
            self.assertEqual(self.place_of(wrong), (0, 0))


class Nested(unittest.TestCase):
    def place_of(self, text):
        with self.assertRaises(BadText, msg=repr(text)) as caught:
            read_script(text)
        return caught.exception.line, caught.exception.column

    def check(self, told):
        text, place = marked(told)
        self.assertEqual(self.place_of(text), place, told)

    def test_a_ninth_brace(self):
        for head in ("on a {", "part p() {"):
            for sides in ("", " else { }"):
                read_script("letters a; " + head + " if true {" * 7 + " stop; " + ("}" + sides) * 7 + "}")
                read_script("letters a; " + head + " if true {" * 7 + " } if true { }" + " }" * 7)
                self.check("letters a; " + head + " if true {" * 7 + " if true @{ }" + "}" * 8)
                self.check("letters a; " + head + " if true {" * 7 + " if true @{ ?")
                # where a ninth brace would be refused, anything else is as well
                self.check("letters a; " + head + " if true {" * 7 + " if true @; ?")
        # each brace that is closed is open no more
        read_script("letters a; on a {" + " if true { } else { }" * 20 + "}")
        self.check("letters a; on a {" + " if true {" * 6 + " if true { } else { if true @{ } }")

    def test_a_ninth_not_or_bracket(self):
        for told in ("not " * 8 + "true", "(" * 8 + "true" + ")" * 8, "not (" * 4 + "true" + ")" * 4,
                     "(not " * 4 + "f = 1" + ")" * 4, " and ".join(["(" * 8 + "true" + ")" * 8] * 3),
                     " or ".join(["not " * 8 + "true"] * 3), "not not (" + " and ".join(["not " * 5 + "true"] * 3) + ")"):
            for head, behind in (("on a when ", " { }"), ("on a { if ", " { } }"), ("end when ", ": x;")):
                read_script(HEAD + head + told + behind)
        for told in ("not " * 8 + "@not true", "not " * 8 + "@(true)", "(" * 8 + "@(true)", "(" * 8 + "@not true",
                     "not (" * 4 + "@(true)", "(not " * 4 + "@not true", "not " * 3 + "(" * 5 + "true and @(true)",
                     "(" * 7 + "true and (true) and (true and @not true)", "true and " + "not " * 8 + "@not true",
                     "(" * 8 + "true or @not true", "not (" + "true or " * 9 + "not " * 6 + "@not true"):
            for head in ("on a when ", "on a { if ", "end when ", "on a when (true) { if "):
                self.check(HEAD + head + told)

    def test_nots_and_brackets_are_told_for_each_guard(self):
        read_script(HEAD + "on a when " + "not " * 8 + "true { if " + "(" * 8 + "true" + ")" * 8 + " { if not true { } } }")

    def test_too_large_comes_behind(self):
        many = "letters a; on a { " + "stop; " * 1001 + "} "
        with self.assertRaises(TooLarge):
            read_script(many)
        for told in ("@on b { }".replace("@on b", "on @b"), "@?", "end: @", "@}", "on a { @", "end: none; @\"", "on a when @{ }"):
            self.check(many + told)

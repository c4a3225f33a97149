"""Point [29]: what scripts do not need, and scripts that do the same with less."""

import unittest
from unittest import mock

from passtexts.alike import write_same
from passtexts.compiling import compiled, judge_scripts
from passtexts.errors import NotThrifty, TooLarge
from passtexts.improving import improved, inlined, narrowed, needless_rules, unused_ends, unused_rules
from passtexts.scriptruns import run_script
from passtexts.scripts import BadScript, Script, read_script
from passtexts.scriptwriting import write_script
from passtexts.thrifty import judge_thrifty
from tests.helpers import echo, every_text, first_text
from tests.scripts_made import Followed, counted_script, script_text

HEAD = "letters ab; counter n 5; counter m 3; text x; text y; "
LARGE = ("letters ab; counter n 299; counter m 1; text x; on b when n = 299 { m = 1; } on b { n = n + 1; } on a { x = x x; } "
         "end: x;")
DOUBLE = "letters ab; text x; on a { x = x x; } end: x;"


def script(told, head=HEAD):
    return read_script(head + told)


def made(many, step=1):
    """Trees of scripts, with the scripts."""
    for number in range(0, many, step):
        tree = counted_script(number, "ab", number % 3 == 0)
        yield tree, read_script(script_text(tree))


class Explored:
    """What a tree's script comes to, whatever is read: the rules that are done, ends that fit, greatest values."""

    def __init__(self, tree):
        self.rules = set()
        self.ends = set()
        self.greatest = {name: 0 for name in tree["counters"]}
        waiting = [{name: 0 for name in tree["counters"]}]
        seen = []
        while waiting:
            counters = waiting.pop()
            if counters not in seen:
                seen.append(counters)
                waiting.extend(self.follow(tree, counters))

    def follow(self, tree, counters):
        found = []
        for letter in ("",) + tuple(tree["letters"]):
            followed = Followed(tree, "")
            followed.counters = dict(counters)
            if letter == "":
                self.ends.add(followed.end())
            else:
                self.rules.add(followed.read(letter))
                self.greatest = {name: max(self.greatest[name], followed.greatest[name]) for name in self.greatest}
                if not followed.stopped:
                    found.append(followed.counters)
        return found


def same_for_short_texts(case, one, other, longest=5):
    case.assertIsNone(first_text(lambda text: run_script(one, text) != run_script(other, text), one.letters, longest))


def without(tree, kind, number):
    """The tree without a rule or an end."""
    return {**tree, kind: tree[kind][:number] + tree[kind][number + 1:]}


def is_so(tree, script_before):
    """Whether the script of a tree can be compiled, is thrifty, and writes the same as another one."""
    told = read_script(script_text(tree))
    try:
        program = compiled(told)
    except TooLarge:
        return False
    return bool(judge_thrifty(program)) and write_same(program, compiled(script_before))


class Unused(unittest.TestCase):
    def test_made_ones(self):
        many = 0
        for tree, told in made(400):
            explored = Explored(tree)
            rules = [number for number in range(len(tree["rules"])) if number not in explored.rules]
            ends = [number for number in range(len(tree["ends"])) if number not in explored.ends]
            self.assertEqual(unused_rules(told), rules)
            self.assertEqual(unused_ends(told), ends)
            many += len(rules) > 0 and len(ends) > 0
        self.assertGreater(many, 30)

    def test_against_short_texts(self):
        for tree, told in made(100):
            done, fitting = set(), set()
            for text in every_text("ab", 5):
                followed = Followed(tree, text)
                done |= set(followed.rules)
                fitting |= set() if followed.stopped else {followed.end()}
            self.assertFalse(done & set(unused_rules(told)))
            self.assertFalse(fitting & set(unused_ends(told)))

    def test_rules(self):
        for told, numbers in (
                ("on a { } on a { }", [1]), ("on a { } on any { } on b { }", [2]), ("on b when n = 1 { } on b { n = 2; }", [0]),
                ("on a { stop; }", []), ("on a { stop; } on b when n = 1 { } on a { n = 1; }", [1, 2]), ("", []),
                ("on a { n = 1; n = 2; } on b when n = 1 { }", [1]), ("on a when not true { } on b { }", [0]),
                ("on a { n = n + 1; } on a when n = 5 { } on b when n = 5 { }", [1]), ("on a when n = 6 { } on a when 6 = 6 { }", [0])):
            self.assertEqual(unused_rules(script(told)), numbers, told)

    def test_ends(self):
        for told, numbers in (
                ("end: x; end: x;", [1]), ("end: none; end: y;", [1]), ("end when n = 1: x; end: x;", [0]), ("", []),
                ("on a { n = 1; } end when n = 1: x; end: x;", []), ("on a { n = 1; stop; } end when n = 1: x; end: x;", [0]),
                ("on a { n = 1; n = 2; } end when n = 1: x; end when n = 2: x; end when n = 0: x; end: x;", [0, 3])):
            self.assertEqual(unused_ends(script(told)), numbers, told)


class Inlined(unittest.TestCase):
    def test_made_ones(self):
        for tree, told in made(150):
            found = inlined(told)
            self.assertIsInstance(found, Script)
            text = write_script(found)
            self.assertNotIn("part ", text)
            self.assertNotIn("do ", text)
            self.assertEqual(read_script(text), found)
            same_for_short_texts(self, told, found, 4)
            self.assertEqual(compiled(found), compiled(told))
            self.assertEqual(inlined(found), found)

    def test_statements_in_the_place_of_calls(self):
        told = script('part put(t, u) { t = u "a" x t; if n = 1 { u = t; n = m + 1; } else { stop; } } part more(u) { do put(u, y); '
                      'u = "b"; } on a when m = 2 { x = ; if true { do more(x); } else { do put(y, y); } n = 0; } end: x y;')
        self.assertEqual(write_script(inlined(told)), (
            'letters ab;\ncounter m 3;\ncounter n 5;\ntext x;\ntext y;\non a when m = 2 {\n  x =;\n  if true {\n    x = y "a" x x;\n'
            '    if n = 1 {\n      y = x;\n      n = m + 1;\n    } else {\n      stop;\n    }\n    x = "b";\n  } else {\n'
            '    y = y "a" x y;\n    if n = 1 {\n      y = y;\n      n = m + 1;\n    } else {\n      stop;\n    }\n  }\n  n = 0;\n}\n'
            'end: x y;\n'))

    def test_calls_of_nothing(self):
        told = script("part no() { } on a { do no(); if n = 0 { do no(); } else { do no(); } }")
        self.assertEqual(inlined(told), script("on a { if n = 0 { } }"))

    def test_without_parts_and_with_parts_that_are_not_called(self):
        self.assertEqual(inlined(script("on a { x = y; }")), script("on a { x = y; }"))
        self.assertEqual(inlined(script("part p(t) { t = ; } on a { x = y; }")), script("on a { x = y; }"))

    def test_the_greatest_scripts(self):
        inner = "if true { " * 3 + "x = ; " + "} " * 3
        told = script("part p() { " + inner + "} on a { " + "if true { " * 4 + "do p(); " + "} " * 4 + "}")
        self.assertEqual(read_script(write_script(inlined(told))), script("on a { " + "if true { " * 4 + inner + "} " * 4 + "}"))
        told = script("part p(t) { " + "t = ; " * 99 + "} on a { " + "do p(x); " * 10 + "}")
        self.assertEqual(inlined(told), script("on a { " + "x = ; " * 990 + "}"))

    def test_it_is_not_refused_where_others_are(self):
        told = read_script(LARGE.replace("x = x x;", "do p(x);").replace("on b when", "part p(t) { t = t t; } on b when"))
        self.assertEqual(inlined(told), read_script(LARGE))


class Narrowed(unittest.TestCase):
    def test_made_ones(self):
        less = 0
        for tree, told in made(300):
            found = narrowed(told)
            greatest = Explored(tree)
            self.assertEqual(found.counters, greatest.greatest)
            self.assertEqual(found, read_script(script_text({**tree, "counters": greatest.greatest})))
            same_for_short_texts(self, told, found, 4)
            self.assertEqual(compiled(found), compiled(told))
            self.assertEqual(narrowed(found), found)
            less += found != told
        self.assertGreater(less, 60)

    def test_values(self):
        for told, n, m in (("", 0, 0), ("on a { n = 3; }", 3, 0), ("on a { n = n + 1; }", 5, 0), ("on a { n = n + 1; m = n - 3; }", 5, 2),
                           ("on a { n = 4; n = 1; }", 4, 0), ("on a { n = 4; stop; n = 5; }", 4, 0), ("on a { m = 299; n = m; }", 3, 3),
                           ("on a { stop; n = 3; }", 0, 0), ("on a when n = 1 { m = 1; }", 0, 0), ("on a { if n = 1 { m = 1; } }", 0, 0),
                           ("part p() { n = 2; m = 1; n = 0; } on a { do p(); }", 2, 1), ("on a { n = n + 2 - 2; m = 1 - 2; }", 0, 0),
                           ("part p() { n = 2; } on a { }", 0, 0), ("on a { n = 7; } on a { m = 1; }", 5, 0),
                           ("on a when n < 2 { n = n + 1; } on b { m = n + 1; }", 2, 3)):
            self.assertEqual(narrowed(script(told)).counters, {"n": n, "m": m}, told)
            self.assertEqual(narrowed(script(told)), script(told, HEAD.replace("n 5", f"n {n}").replace("m 3", f"m {m}")))

    def test_the_rest_stays(self):
        told = script('part p(t) { t = "a"; } on b when n = 2 { do p(x); n = 2; } on any { n = 1; } end when n = 5: none; end: y;')
        text = write_script(told)
        self.assertEqual(write_script(narrowed(told)), text.replace("n 5;", "n 1;").replace("m 3;", "m 0;"))


class Needless(unittest.TestCase):
    def test_made_ones(self):
        kinds = {True: 0, False: 0, None: 0}
        for tree, told in made(170):
            if not judge_thrifty(compiled(told)):
                with self.assertRaises(NotThrifty):
                    needless_rules(told)
                kinds[None] += 1
                continue
            found = needless_rules(told)
            expected = [number for number in range(len(tree["rules"])) if is_so(without(tree, "rules", number), told)]
            self.assertEqual(found, expected)
            for number in range(len(tree["rules"])):
                left = read_script(script_text(without(tree, "rules", number)))
                kinds[number in found] += 1
                text = first_text(lambda text: run_script(told, text) != run_script(left, text), "ab", 5)
                if number in found:
                    self.assertIsNone(text)
                    self.assertTrue(judge_scripts(told, left))
                elif judge_thrifty(compiled(left)):
                    self.assertIsNotNone(text)
            self.assertLessEqual(set(unused_rules(told)), set(found))
        self.assertGreater(min(kinds[True], kinds[False]), 100, kinds)
        self.assertGreater(kinds[None], 0)

    def test_each_alone(self):
        told = script('on a when n = 0 { x = x "a"; } on a { x = x "a"; } on b { y = "b"; } on b when n = 1 { } end: x;')
        self.assertEqual(needless_rules(told), [0, 1, 2, 3])
        told = script('on a { x = x "a"; } on b { x = x "b"; n = 1; } on b when n = 1 { } on b { x = x "b"; } end: x;')
        self.assertEqual(needless_rules(told), [1, 2, 3])
        self.assertEqual(needless_rules(script('on any { x = x "a"; } on b { x = x "b"; } on b when n = 1 { } end: x;')), [1, 2])

    def test_what_cannot_be_compiled_without_it(self):
        told = read_script("letters ab; counter n 299; counter m 1; on b when n = 299 { } on b when n = 299 { m = 1; } "
                           "on b { n = n + 1; } on a { } end: ;")
        self.assertEqual(needless_rules(told), [1, 2, 3])

    def test_what_is_not_thrifty_without_it(self):
        told = script("on a { } on a { x = x x; } on b { } end: x;")
        self.assertEqual(needless_rules(told), [1, 2])

    def test_refused_texts_count(self):
        self.assertEqual(needless_rules(script("on a { stop; } on b { } end: ;")), [1])
        self.assertEqual(needless_rules(script("on a { stop; } on b { n = 1; } end when n = 0: ;")), [])
        self.assertEqual(needless_rules(script("on a { stop; } on b { n = 1; } end: none;")), [0, 1])


def better_by_hand(tree):
    """What improved makes of a tree, step by step as the document tells."""
    script_before = read_script(script_text(tree))
    while True:
        text = script_text(tree)
        for kind in ("rules", "ends"):
            for number in range(len(tree[kind]) - 1, -1, -1):
                if is_so(without(tree, kind, number), script_before):
                    tree = without(tree, kind, number)
        tree = {**tree, "parts": tuple(part for part in tree["parts"] if part[0] in called_by_rules(tree))}
        while unasked(tree):
            gone = unasked(tree)[0]
            tree = {**tree, "counters": {name: most for name, most in tree["counters"].items() if name != gone},
                    "parts": tuple((name, own, unset(told, gone)) for name, own, told in tree["parts"]),
                    "rules": tuple((letters, guard, unset(told, gone)) for letters, guard, told in tree["rules"])}
        tree = {**tree, "counters": Explored(tree).greatest}
        if script_text(tree) == text:
            return tree


def every_statement(statements):
    for told in statements:
        yield told
        if told[0] == "if":
            yield from every_statement(told[2])
            yield from every_statement(told[3] or ())


def called_by_rules(tree):
    """The names of the parts that rules call, themselves or by parts."""
    parts = {part[0]: part[2] for part in tree["parts"]}
    found = set()
    waiting = [told for rule in tree["rules"] for told in every_statement(rule[2])]
    while waiting:
        told = waiting.pop()
        if told[0] == "do" and told[1] not in found:
            found.add(told[1])
            waiting.extend(every_statement(parts[told[1]]))
    return found


def in_guard(guard):
    if guard is None or guard[0] == "true":
        return set()
    if guard[0] in ("not", "and", "or"):
        return set().union(*[in_guard(part) for part in guard[1:]])
    return {thing for thing in guard[1:] if isinstance(thing, str)}


def unasked(tree):
    """The counters that no guard asks, and no statement that sets another counter."""
    asked = set()
    for _, guard, _ in tree["rules"]:
        asked |= in_guard(guard)
    for guard, _ in tree["ends"]:
        asked |= in_guard(guard)
    for block in [part[2] for part in tree["parts"]] + [rule[2] for rule in tree["rules"]]:
        for told in every_statement(block):
            if told[0] == "if":
                asked |= in_guard(told[1])
            elif told[0] == "sum" and told[2] != told[1]:
                asked.add(told[2])
    return [name for name in tree["counters"] if name not in asked]


def unset(statements, counter):
    """The statements without those that set a counter."""
    found = []
    for told in statements:
        if told[0] == "if":
            found.append(("if", told[1], unset(told[2], counter), unset(told[3] or (), counter)))
        elif told[0] != "sum" or told[1] != counter:
            found.append(told)
    return tuple(found)


class Improved(unittest.TestCase):
    def improves(self, told, better, head=HEAD, better_head=HEAD):
        found = improved(script(told, head))
        self.assertEqual(write_script(found), write_script(script(better, better_head)))
        self.assertEqual(found, script(better, better_head))
        self.assertEqual(improved(found), found)

    def test_made_ones(self):
        less = 0
        for tree, told in made(120):
            if not judge_thrifty(compiled(told)):
                with self.assertRaises(NotThrifty):
                    improved(told)
                continue
            found = improved(told)
            self.assertIsInstance(found, Script)
            self.assertEqual(write_script(found), write_script(read_script(script_text(better_by_hand(tree)))))
            self.assertTrue(judge_scripts(told, found))
            same_for_short_texts(self, told, found)
            self.assertEqual(improved(found), found)
            self.assertEqual(read_script(write_script(found)), found)
            less += len(found) < len(told)
        self.assertGreater(less, 60)

    def test_what_is_needed_stays(self):
        for told in ('on a when n < 5 { x = x "a"; n = n + 1; } on b when n = 5 { x = "b" x; n = m + 1; m = m + 1; } end when n < 3: x; end: "c" x;',
                     'part p(t) { t = t "a"; if m = 3 { stop; } m = m + 1; } part q(u, v) { do p(u); do p(v); } on a { do q(x, y); } '
                     'on b when m > 0 { n = n + 1; } end when n = 5: x; end: y "b";'):
            self.improves(told, told)

    def test_rules_from_the_last_to_the_first(self):
        head = "letters ab; text x; "
        self.improves('on a { x = x "a"; } on b { } on a { x = ; } end: x;', 'on a { x = x "a"; } end: x;', head, head)
        # of two that do the same, the last one goes
        one = HEAD.replace("counter m 3; ", "")
        self.improves('on a when n < 2 { x = x "a"; if n = 0 { n = 1; } } on a { x = x "a"; n = 1; } on b when n > 0 { x = "b" x; } end: x;',
                      'on a when n < 2 { x = x "a"; if n = 0 { n = 1; } } on b when n > 0 { x = "b" x; } end: x;',
                      one, one.replace("n 5", "n 1"))
        self.improves('on any { x = x "a"; } on a { x = x "a"; } on b { x = x "a"; } end: x;', 'on any { x = x "a"; } end: x;', head, head)

    def test_ends_from_the_last_to_the_first(self):
        head = HEAD.replace("counter m 3; ", "").replace("n 5", "n 2")
        told = 'on a when n < 2 { n = n + 1; x = x "a"; } '
        self.improves(told + "end when n = 1: x; end when n = 1: y; end when n > 2: y; end when n = 2: x \"b\"; end: none;",
                      told + 'end when n = 1: x; end when n = 2: x "b";', head, head)
        self.improves(told + "end when n < 2: x; end when n < 1: x; end: x;", told + "end: x;", head, head)
        self.improves(told + "end when n < 2: x; end when n = 2: x; end when n = 0: none;", told + "end when n < 2: x; end when n = 2: x;",
                      head, head)

    def test_ends_whose_rest_is_not_thrifty_stay(self):
        head = "letters ab; counter n 1; text x; text y; text z; "
        # x is always empty, but behind a the other end would write it, and a copy of it
        told = 'on a { z = z "a"; y = x; n = 1; } end when n = 1: z x; end: z x y;'
        self.improves(told, told, head, head)
        self.improves(told.replace("y = x;", "y = ;"), 'on a { z = z "a"; y = ; } end: z x y;', head, head.replace("counter n 1; ", ""))

    def test_parts_that_no_rule_calls(self):
        head = "letters ab; text x; text y; "
        told = ('part one(t) { t = t "a"; } part two(t) { do one(t); } part three(t) { do two(t); } part four(t) { do one(t); } '
                'part five() { do four(y); } on a { do three(x); } on b { x = "b" x; } end: x;')
        self.improves(told, told.replace("part four(t) { do one(t); } part five() { do four(y); } ", ""), head, head)
        self.improves("part one(t) { t = ; } on b { if true { x = \"b\"; } } end: x;", "on b { if true { x = \"b\"; } } end: x;", head, head)
        told = "part one(t) { t = \"a\"; } on b { if true { } else { do one(x); } x = \"b\"; } end: x;"
        self.improves(told, told, head, head)

    def test_counters_that_nothing_asks(self):
        rest = 'letters ab; text x; '
        for setting in ("n = n + 1;", "n = 3;", "if true { n = 2; }", "n = m; m = 2;", "n = m; m = m + 1;", "n = 0;", "do set();"):
            told = "part set() { n = n + 1; m = 1; } " + f'on a {{ x = x "a"; {setting} }} end: x;'
            left = ('part set() { } ' if "do" in setting else "") + 'on a { x = x "a"; ' + (
                "if true { } " if "if" in setting else "do set(); " if "do" in setting else "") + "} end: x;"
            self.improves(told, left, HEAD.replace("text y; ", ""), rest)

    def test_counters_that_something_asks_stay(self):
        head = HEAD.replace("text y; ", "")
        for asking, n, m in (("m = n; n = m;", 0, 0), ("m = n + 1; n = m + 1;", 4, 3), ("m = n; n = m + 2; m = m;", 5, 3)):
            told = f'on a {{ x = x "a"; {asking} }} end: x;'
            self.improves(told, told, head, head.replace("n 5", f"n {n}").replace("m 3", f"m {m}"))
        # just m is set by nothing that is asked; n is asked by what sets m, and by nothing once m is gone
        self.improves('on a { x = x "a"; n = n + 1; m = n; } end: x;', 'on a { x = x "a"; } end: x;', head, "letters ab; text x; ")
        told = 'on a { x = x "a"; if n = 0 { } n = n + 1; m = n; } end: x;'
        self.improves(told, told.replace(" m = n;", ""), head, head.replace("counter m 3; ", ""))

    def test_narrowing(self):
        told = 'on a when n < 2 { n = n + 1; x = x "a"; m = n + 1; } on b when m = 3 { m = 0; x = "b" x; n = 0; } end: x;'
        self.improves(told, told, HEAD.replace("n 5", "n 299"), HEAD.replace("n 5", "n 2"))

    def test_again_and_again(self):
        # the rule for n = 1 is needed until the first one is gone, which is asked later than it
        told = ('on a when m = 0 { x = x "a"; n = 1; m = 1; } on a { x = x "a"; } on b when n = 1 { x = x "b"; } '
                'on b when n = 0 { x = x "b"; } end: x;')
        self.assertEqual(needless_rules(script(told)), [0])
        self.improves(told, 'on a { x = x "a"; } on b when n = 0 { x = x "b"; } end: x;', HEAD,
                      HEAD.replace("counter m 3; ", "").replace("n 5", "n 0"))
        # the part is called by nothing once the rule is gone, and with it nothing asks the counter
        told = 'part p(t) { if m = 1 { t = t "a"; } } on a when n = 1 { do p(x); } on b { x = "b" x; m = 1; } end: x;'
        self.improves(told, 'on b { x = "b" x; } end: x;', HEAD, "letters ab; text x; text y; ")

    def test_ends_and_the_rules_that_led_to_them(self):
        self.improves('on a { n = 1; } on b { x = x "b"; } end when n = 1: x; end: x;', 'on b { x = x "b"; } end: x;', HEAD,
                      "letters ab; text x; text y; ")

    def test_what_writes_nothing(self):
        self.improves('on a { x = x "a"; n = 1; } on b { stop; } end when n = 0: none; end: none;', "", HEAD, "letters ab; text x; text y; ")
        self.improves("on a { stop; } end: ;", "on a { stop; } end: ;", HEAD, "letters ab; text x; text y; ")


class Refused(unittest.TestCase):
    def test_what_is_no_script_comes_first(self):
        for call in (unused_rules, unused_ends, inlined, narrowed, needless_rules, improved):
            for wrong in (None, "letters a;", 1, [script("")], compiled(script("")), echo(), True):
                with self.assertRaises(BadScript):
                    call(wrong)

    def test_too_large(self):
        row = "letters ab; text x; on a { x = " + "x " * 401 + "; x = ; } end: x;"
        for call in (unused_rules, unused_ends, narrowed, needless_rules, improved):
            for wrong in (LARGE, row):
                with self.assertRaises(TooLarge):
                    call(read_script(wrong))

    def test_not_thrifty(self):
        for call in (needless_rules, improved):
            with self.assertRaises(NotThrifty):
                call(read_script(DOUBLE))
        for call, found in ((unused_rules, []), (unused_ends, [])):
            self.assertEqual(call(read_script(DOUBLE)), found)
        self.assertEqual(narrowed(read_script(DOUBLE)), inlined(read_script(DOUBLE)))

    def test_too_large_as_judge_same(self):
        told = script('on a { x = x "a"; } on b { y = ; } end: x y;')
        self.assertEqual(needless_rules(told), [1])
        for call in (needless_rules, improved):
            with mock.patch("passtexts.marks.MOST_NODES", 0):
                with self.assertRaises(TooLarge):
                    call(told)


class NothingIsKept(unittest.TestCase):
    def test_scripts_are_not_changed(self):
        for tree, told in made(60, 7):
            same = read_script(script_text(tree))
            for call in (unused_rules, unused_ends, inlined, narrowed):
                call(told)
            if judge_thrifty(compiled(told)):
                needless_rules(told)
                improved(told)
            self.assertEqual(told, same)
            self.assertEqual(write_script(told), write_script(same))

    def test_what_is_returned_is_new(self):
        for text in (HEAD + 'part p(t) { t = t "a"; } on a when n < 5 { do p(x); n = n + 1; } end when n < 4: x;',
                     'letters ab; text x; on a { x = x "a"; } end: x;'):
            told, same = read_script(text), read_script(text)
            for call in (inlined, narrowed, improved):
                found = call(told)
                self.assertIsNot(found, told)
                self.assertIsNot(found.counters, told.counters)
                self.assertIsNot(found.texts, told.texts)
                found.counters["zz"] = 3
                found.texts.clear()
                self.assertEqual(told, same)
                self.assertEqual(call(told), call(same))

    def test_lists_are_new(self):
        told = script("on a { } on a { } end: ; end: ;")
        for call in (unused_rules, unused_ends, needless_rules):
            call(told).append(9)
            self.assertNotIn(9, call(told))

"""Scripts made by counting through shapes, as trees, with their texts, and what they do, followed word for word.

A guard is a tuple: ("true",), (sign, thing, thing), ("not", guard), ("and", guard, guard), ("or", guard, guard).
A statement is ("row", name, items), ("sum", counter, thing, numbers), ("if", guard, statements, statements or None),
("do", part, names) or ("stop",); an item is a name or a text in quotes, and a number to be taken away is below 0.
"""

from tests.helpers import Digits

PARTS = (
    ("put", ("t",), (("row", "t", ("t", '"b"')),)),
    ("move", ("t", "u"), (("row", "t", ("t", "u")), ("row", "u", ()), ("sum", "n", "n", (1,)))),
    ("both", ("v", "w"), (("do", "move", ("w", "v")), ("if", ("=", "n", "m"), (("do", "put", ("w",)),), None))),
    ("no", (), (("if", (">", "m", 1), (("stop",),), (("sum", "m", "m", (1,)),)),)),
    ("own", ("u", "t"), (("do", "move", ("t", "u")), ("row", "x", ("x", '"a"')))),
)
ROWS = (
    ("row", "x", ("x", '"a"')), ("row", "x", ('"b"', "x")), ("row", "y", ("y", '"ab"')),
    ("row", "x", ('"a"', '""', "x", '"b"')), ("row", "x", ()), ("row", "y", ('"b"',)),
)
MOVES = (
    (("row", "x", ("x", "y")), ("row", "y", ())),
    (("row", "y", ("y", '"b"', "x")), ("row", "x", ('"a"',))),
    (("row", "z", ("x",)), ("row", "x", ("y",)), ("row", "y", ("z",)), ("row", "z", ())),
)
COPIES = ((("row", "y", ("x",)),), (("row", "x", ("y", '"a"')), ("row", "y", ("x",))))
SUMS = (
    ("sum", "n", "n", (1,)), ("sum", "n", 0, ()), ("sum", "n", "m", (2, -1)), ("sum", "m", "n", ()),
    ("sum", "m", "m", (-1,)), ("sum", "m", 1, (1,)), ("sum", "n", "n", (-2,)), ("sum", "m", "n", (-1, 299)),
)
CALLS = (("do", "put", ("x",)), ("do", "move", ("x", "y")), ("do", "both", ("x", "y")), ("do", "no", ()),
         ("do", "own", ("y", "z")), ("do", "put", ("y",)))
THINGS = ("n", "m", 0, 1, 2)
SIGNS = ("=", "!=", "<", "<=", ">", ">=")
END_ROWS = (("x",), ("x", '"e"', "y"), ("y", "x"), None, (), ('"c"', "x"), ("x", "y", "z"))


def guard_of(digits, depth):
    """The guard that comes next."""
    kind = digits.take(8 if depth > 0 else 5)
    if kind == 0:
        return ("true",)
    if kind < 5:
        return (SIGNS[digits.take(6)], THINGS[digits.take(3)], THINGS[digits.take(5)])
    if kind == 5:
        return ("not", guard_of(digits, depth - 1))
    return ("and" if kind == 6 else "or", guard_of(digits, depth - 1), guard_of(digits, depth - 1))


def statements_of(digits, many, depth, copies):
    """The statements that come next."""
    found = []
    for _ in range(many):
        kind = digits.take(14)
        if kind < 4:
            found.append(ROWS[digits.take(len(ROWS))])
        elif kind < 6:
            found.extend(MOVES[digits.take(len(MOVES))])
        elif kind < 9:
            found.append(SUMS[digits.take(len(SUMS))])
        elif kind < 11:
            found.append(CALLS[digits.take(len(CALLS))])
        elif kind == 11:
            found.append(("stop",) if digits.take(2) else ROWS[1])
        elif kind == 12 and copies:
            found.extend(COPIES[digits.take(len(COPIES))])
        elif depth > 0:
            other = digits.take(3)
            found.append(("if", guard_of(digits, 2), statements_of(digits, 1 + digits.take(2), depth - 1, copies),
                          None if other == 0 else statements_of(digits, other, depth - 1, copies)))
    return tuple(found)


def counted_script(number, letters="ab", copies=False):
    """The tree of the script with this number."""
    digits = Digits(number)
    firsts = ({}, {"x": "a"}, {"y": "b"}, {"x": "b", "z": "ab"})[digits.take(4)]
    rules = []
    for _ in range(1 + digits.take(4)):
        told = (letters, letters[-1], letters[0])[digits.take(3)]
        guard = guard_of(digits, 2) if digits.take(2) else None
        rules.append((told, guard, statements_of(digits, 1 + digits.take(3), 2, copies)))
    ends = [(guard_of(digits, 1) if digits.take(3) else None, END_ROWS[digits.take(len(END_ROWS))])
            for _ in range(1 + digits.take(3))]
    return {"letters": letters, "counters": {"n": digits.take(4), "m": digits.take(3)},
            "texts": {"x": "", "y": "", "z": "", **firsts}, "parts": PARTS, "rules": tuple(rules), "ends": tuple(ends)}


def guard_text(guard):
    """A guard's text, with brackets around all but comparisons."""
    if guard[0] == "true":
        return "true"
    if guard[0] == "not":
        return f"not ({guard_text(guard[1])})"
    if guard[0] in ("and", "or"):
        return f"({guard_text(guard[1])}) {guard[0]} ({guard_text(guard[2])})"
    return f"{guard[1]}{guard[0]}{guard[2]}"


def statement_text(statement):
    """A statement's text."""
    if statement[0] == "row":
        return f"{statement[1]} = {' '.join(statement[2])};"
    if statement[0] == "sum":
        told = "".join(f" {'+' if number >= 0 else '-'} {abs(number)}" for number in statement[3])
        return f"{statement[1]} = {statement[2]}{told};"
    if statement[0] == "if":
        other = "" if statement[3] is None else f" else {block_text(statement[3])}"
        return f"if {guard_text(statement[1])} {block_text(statement[2])}{other}"
    if statement[0] == "do":
        return f"do {statement[1]}({', '.join(statement[2])});"
    return "stop;"


def block_text(statements):
    """The text of statements in braces."""
    return "{ " + " ".join(statement_text(told) for told in statements) + " }"


def script_text(script):
    """The text of a script that is told by a tree."""
    lines = [f"letters {script['letters']};"]
    lines.extend(f"counter {name} {most};" for name, most in script["counters"].items())
    lines.extend(f'text {name} "{first}";' for name, first in script["texts"].items())
    lines.extend(f"part {name}({', '.join(own)}) {block_text(told)}" for name, own, told in script["parts"])
    for letters, guard, told in script["rules"]:
        lines.append(f"on {letters}{'' if guard is None else ' when ' + guard_text(guard)} {block_text(told)}")
    for guard, row in script["ends"]:
        lines.append(f"end{'' if guard is None else ' when ' + guard_text(guard)}: "
                     + ("none" if row is None else " ".join(row)) + ";")
    return "\n".join(lines)


class Stopped(Exception):
    """What a stop does."""


class Followed:
    """What a script, told by a tree, does with a text, followed word for word."""

    def __init__(self, script, text):
        self.script = script
        self.counters = {name: 0 for name in script["counters"]}
        self.texts = dict(script["texts"])
        self.greatest = dict(self.counters)
        self.rules = []
        self.stopped = False
        for letter in text:
            self.rules.append(None if self.stopped else self.read(letter))

    def read(self, letter):
        for number, (letters, guard, statements) in enumerate(self.script["rules"]):
            if letter in letters and self.holds(guard):
                try:
                    self.do_all(statements, {})
                except Stopped:
                    self.stopped = True
                return number
        return None

    def written(self):
        if self.stopped:
            return None
        number = self.end()
        row = None if number is None else self.script["ends"][number][1]
        return None if row is None else self.text_of(row, {})

    def end(self):
        fits = [number for number, (guard, _) in enumerate(self.script["ends"]) if self.holds(guard)]
        return fits[0] if fits else None

    def value(self, thing):
        return thing if isinstance(thing, int) else self.counters[thing]

    def holds(self, guard):
        if guard is None or guard[0] == "true":
            return True
        if guard[0] == "not":
            return not self.holds(guard[1])
        if guard[0] == "and":
            return self.holds(guard[1]) and self.holds(guard[2])
        if guard[0] == "or":
            return self.holds(guard[1]) or self.holds(guard[2])
        left, right = self.value(guard[1]), self.value(guard[2])
        return {"=": left == right, "!=": left != right, "<": left < right, "<=": left <= right, ">": left > right,
                ">=": left >= right}[guard[0]]

    def text_of(self, row, names):
        return "".join(item[1:-1] if item.startswith('"') else self.texts[names.get(item, item)] for item in row)

    def do_all(self, statements, names):
        for statement in statements:
            self.do(statement, names)

    def do(self, statement, names):
        if statement[0] == "row":
            self.texts[names.get(statement[1], statement[1])] = self.text_of(statement[2], names)
        elif statement[0] == "sum":
            total = self.value(statement[2]) + sum(statement[3])
            name = statement[1]
            self.counters[name] = max(0, min(self.script["counters"][name], total))
            self.greatest[name] = max(self.greatest[name], self.counters[name])
        elif statement[0] == "if":
            self.do_all((statement[2] if self.holds(statement[1]) else statement[3]) or (), names)
        elif statement[0] == "do":
            _, own, inner = [part for part in self.script["parts"] if part[0] == statement[1]][0]
            self.do_all(inner, dict(zip(own, [names.get(name, name) for name in statement[2]])))
        else:
            raise Stopped()

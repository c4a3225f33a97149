"""Points [1] and [2]: programs, what they copy, what they refuse."""

import copy
import unittest

from passtexts.errors import BadProgram, BadWord
from passtexts.programs import Program
from passtexts.values import word_of
from tests.helpers import counted, echo, every_text, shares

GOOD = {
    "letters": "ab",
    "states": 2,
    "registers": ["x", "y"],
    "firsts": {"x": "a"},
    "steps": {(0, "a"): (1, {"x": (("x",), "a")}), (0, "b"): (0, {}), (1, "a"): (0, {}), (1, "b"): (1, {})},
    "ends": {0: (("x",), "c")},
}
PARTS = ("letters", "states", "registers", "firsts", "steps", "ends")


def made(**changes):
    return Program(**{**copy.deepcopy(GOOD), **changes})


def with_step(step):
    return {**GOOD["steps"], (1, "b"): step}


def with_key(key):
    steps = {told: GOOD["steps"][told] for told in GOOD["steps"] if told != (1, "b")}
    return {**steps, key: (1, {})}


def with_row(row):
    return with_step((1, {"x": row}))


WRONG = {
    "letters": [None, 1, "", "abcde", "aa", "aB", "a-", "a b", "\u00e9", ["a", "b"], ("a",), b"ab", "abca"],
    "states": [None, True, False, 0, -1, 301, "2", 2.0, [2]],
    "registers": [None, "xy", {"x": 1, "y": 1}, ["x", "x"], ["x", ""], ["x", "abcdefghi"], ["x", "Y"], ["x", "y1"],
                  ["x", None], ["x", ("y",)], ["x", ["y"]], ["x", 1], [word_of(number) for number in range(61)]],
    "firsts": [None, [("x", "a")], {"z": "a"}, {"x": None}, {"x": "A"}, {"x": ("a",)}, {"x": "a b"}, {1: "a"},
               {("x",): "a"}, {"x": 1}],
    "steps": [
        None, [], {}, {key: GOOD["steps"][key] for key in list(GOOD["steps"])[:3]},
        {**GOOD["steps"], (2, "a"): (0, {})}, {**GOOD["steps"], (0, "c"): (0, {})}, {**GOOD["steps"], "a": (0, {})},
        with_key((2, "b")), with_key((1, "c")), with_key((True, "b")), with_key((1.0, "b")), with_key((1, "ab")),
        with_key((1, "")), with_key((1, None)), with_key((1, "b", 0)), with_key((1,)), with_key("1b"),
        with_key(("1", "b")), with_step(None), with_step([1, {}]), with_step((1,)), with_step((1, {}, 0)),
        with_step((2, {})), with_step((-1, {})), with_step((True, {})), with_step(("1", {})), with_step((None, {})),
        with_step((1, [])), with_step((1, None)), with_step((1, {"z": ()})), with_step((1, {1: ()})),
        with_row(None), with_row("a"), with_row(["a"]), with_row(("A",)), with_row(("a b",)), with_row((1,)),
        with_row((None,)), with_row((["x"],)), with_row(((),)), with_row((("x", "y"),)), with_row((("z",),)),
        with_row(((1,),)), with_row(((["x"],),)), with_row((("a",), ("x",))),
    ],
    "ends": [None, [], [()], {2: ()}, {-1: ()}, {True: ()}, {0.0: ()}, {"0": ()}, {None: ()}, {(0,): ()},
             {0: None}, {0: "c"}, {0: ["c"]}, {0: ("C",)}, {0: (("z",),)}, {0: (("x", "y"),)}, {0: (["x"],)},
             {0: (1,)}],
}


class Refused(unittest.TestCase):
    def part_of(self, **changes):
        with self.assertRaises(BadProgram) as caught:
            made(**changes)
        return caught.exception.part

    def test_each_part_that_is_not_as_told(self):
        for part in PARTS:
            for wrong in WRONG[part]:
                with self.subTest(part=part, wrong=wrong):
                    self.assertEqual(self.part_of(**{part: wrong}), part)

    def test_the_first_part_of_several_is_named(self):
        for number, part in enumerate(PARTS):
            for later in PARTS[number + 1:]:
                self.assertEqual(self.part_of(**{part: WRONG[part][0], later: WRONG[later][0]}), part)
        self.assertEqual(self.part_of(**{part: WRONG[part][0] for part in PARTS}), "letters")

    def test_parts_that_hang_together(self):
        self.assertEqual(self.part_of(letters="a"), "steps")
        self.assertEqual(self.part_of(states=1), "steps")
        self.assertEqual(self.part_of(states=3), "steps")
        self.assertEqual(self.part_of(registers=["y"]), "firsts")
        self.assertEqual(self.part_of(registers=["y"], firsts={}), "steps")
        self.assertEqual(self.part_of(registers=["x"], ends={0: (("y",),)}), "ends")

    def test_the_limits_are_allowed(self):
        for letters in ("a", "0", "abcd", "z9a0"):
            self.assertEqual(len(echo(letters)(letters)), len(letters))
        self.assertEqual(echo("a", 300).states, 300)
        names = [word_of(number) for number in range(60)]
        self.assertEqual(Program("a", 1, names, {}, {(0, "a"): (0, {})}, {}).registers, sorted(names))
        self.assertEqual(Program("a", 1, (), {}, {(0, "a"): (0, {})}, {0: ("b",)})("aa"), "b")
        self.assertEqual(Program("a", 1, ("abcdefgh", "z"), {}, {(0, "a"): (0, {})}, {}).registers, ["abcdefgh", "z"])


class Parts(unittest.TestCase):
    def test_ascending(self):
        steps = {(1, "b"): (0, {}), (1, "0"): (1, {}), (0, "b"): (1, {"y": ("a",), "x": ()}), (0, "0"): (0, {})}
        program = Program("b0", 2, ("y", "x"), {"y": "b"}, steps, {1: (), 0: ("a",)})
        self.assertEqual(program.letters, "0b")
        self.assertEqual(program.registers, ["x", "y"])
        self.assertIsInstance(program.registers, list)
        self.assertEqual(list(program.firsts.items()), [("x", ""), ("y", "b")])
        self.assertEqual(list(program.steps), [(0, "0"), (0, "b"), (1, "0"), (1, "b")])
        self.assertEqual(list(program.steps[(0, "b")][1].items()), [("x", ()), ("y", ("a",))])
        self.assertEqual(list(program.ends), [0, 1])

    def test_registers_that_are_kept(self):
        program = made()
        self.assertEqual(program.steps[(0, "b")], (0, {"x": (("x",),), "y": (("y",),)}))
        self.assertEqual(program.steps[(0, "a")][1]["y"], (("y",),))
        self.assertEqual(program("bab"), None)
        self.assertEqual(program("baba"), "aac")

    def test_rows_put_together(self):
        row = ("", "a", "b", ("x",), "", ("y",), "c", "", "d", "")
        program = made(steps=with_row(row), ends={0: row, 1: ("", "")})
        self.assertEqual(program.steps[(1, "b")][1]["x"], ("ab", ("x",), ("y",), "cd"))
        self.assertEqual(program.ends, {0: ("ab", ("x",), ("y",), "cd"), 1: ()})
        self.assertIsInstance(program.steps[(1, "b")], tuple)

    def test_a_row_that_keeps_but_for_empty_texts(self):
        self.assertEqual(made(steps=with_row(("", ("x",), ""))), made())

    def test_equal(self):
        self.assertEqual(made(), made())
        self.assertEqual(made(letters="ba", registers=("y", "x"), firsts={"y": "", "x": "a"}), made())
        self.assertEqual(made(steps=dict(reversed(list(GOOD["steps"].items())))), made())
        self.assertFalse(made() != made())

    def test_unequal(self):
        for changes in ({"firsts": {}}, {"ends": {}}, {"ends": {0: (("x",),)}}, {"registers": ["x", "y", "z"]},
                        {"steps": with_row(())}, {"steps": with_step((0, {}))}):
            self.assertNotEqual(made(**changes), made())
        self.assertNotEqual(echo("ab"), echo("ac"))
        self.assertNotEqual(echo("a", 2), echo("a", 1))
        self.assertNotEqual(made(), None)
        self.assertNotEqual(made(), GOOD)

    def test_same_texts_are_not_equal_programs(self):
        self.assertNotEqual(echo("a", 2), echo("a", 3))


class Copies(unittest.TestCase):
    def test_what_is_given_is_neither_changed_nor_kept(self):
        told = copy.deepcopy(GOOD)
        program = Program(**told)
        self.assertEqual(told, GOOD)
        told["registers"].append("z")
        told["firsts"]["x"] = "b"
        told["steps"][(0, "a")][1]["x"] = ()
        told["steps"][(0, "b")] = (1, {})
        told["ends"][1] = ()
        self.assertEqual(program, made())
        self.assertEqual(program("aa"), "aac")

    def test_a_dict_that_is_given_several_times_is_copied_each_time(self):
        rows = {"x": (("x",), "a")}
        program = Program("ab", 1, ["x"], {}, {(0, "a"): (0, rows), (0, "b"): (0, rows)}, {})
        self.assertFalse(shares(program, echo()))
        rows["x"] = ()
        self.assertEqual(program.after("ab"), (0, {"x": "aa"}))

    def test_what_is_returned_is_new(self):
        program = made()
        program.after("")[1]["x"] = "b"
        program.reached().append(7)
        self.assertEqual(program.after(""), (0, {"x": "a", "y": ""}))
        self.assertEqual(program.reached(), [0, 1])
        self.assertEqual(program, made())


class Reading(unittest.TestCase):
    def test_all_registers_at_once(self):
        steps = {(0, "a"): (0, {"x": (("y",), "1"), "y": (("x",), "2")})}
        program = Program("a", 1, ["x", "y"], {"x": "x", "y": "y"}, steps, {0: (("x",), "0", ("y",))})
        self.assertEqual(program.after("a"), (0, {"x": "y1", "y": "x2"}))
        self.assertEqual(program("aa"), "x210y12")

    def test_a_register_that_is_not_told_keeps_what_it_holds(self):
        self.assertEqual(made().after("abb"), (1, {"x": "aa", "y": ""}))

    def test_copies(self):
        steps = {(0, "a"): (0, {"x": (("x",), ("x",))})}
        self.assertEqual(Program("a", 1, ["x"], {"x": "ab"}, steps, {0: (("x",), ("x",))})("aa"), "ab" * 8)

    def test_refused_and_empty(self):
        program = made(ends={0: ()})
        self.assertEqual([program(""), program("a"), program("aa")], ["", None, ""])
        self.assertIsNone(made(ends={})(""))

    def test_against_reading_letter_by_letter(self):
        for number in range(60):
            program = counted(number, "ab", 3)
            for text in every_text("ab", 5):
                state, held = 0, dict(program.firsts)
                for letter in text:
                    state, rows = program.steps[(state, letter)]
                    held = {name: "".join(item if isinstance(item, str) else held[item[0]] for item in row)
                            for name, row in rows.items()}
                self.assertEqual(program.after(text), (state, held))
                row = program.ends.get(state)
                written = None if row is None else "".join(
                    item if isinstance(item, str) else held[item[0]] for item in row)
                self.assertEqual(program(text), written)

    def test_long_texts(self):
        self.assertEqual(echo()("ab" * 20000), "ab" * 20000)

    def test_reached(self):
        steps = {(0, "a"): (3, {}), (1, "a"): (2, {}), (2, "a"): (1, {}), (3, "a"): (5, {}), (4, "a"): (0, {}),
                 (5, "a"): (3, {})}
        self.assertEqual(Program("a", 6, [], {}, steps, {}).reached(), [0, 3, 5])
        self.assertEqual(echo("a", 300).reached(), list(range(300)))
        self.assertEqual(Program("a", 2, [], {}, {(0, "a"): (0, {}), (1, "a"): (0, {})}, {}).reached(), [0])

    def test_texts_that_are_none(self):
        for asked in (made(), made().after):
            for wrong in (None, 1, ["a"], ("a",), b"a", {}):
                with self.assertRaises(BadWord) as caught:
                    asked(wrong)
                self.assertIsNone(caught.exception.place)

    def test_letters_that_are_not_read(self):
        for asked in (made(), made().after):
            for text, place in (("c", 0), ("aabcac", 3), ("ab ", 2), ("abA", 2), ("a" * 1000 + "\u00e9", 1000)):
                with self.assertRaises(BadWord) as caught:
                    asked(text)
                self.assertEqual(caught.exception.place, place)

    def test_asked_again(self):
        program = made()
        self.assertEqual([program("aabb"), program.after("ab")], [program("aabb"), program.after("ab")])

import copy
import unittest

from leastcode.codes import Code
from leastcode.coding import code_for
from leastcode.errors import BadCode, BadNumber
from helping import ODD_VALUES, check_raises, check_same
from handmade import (ADD, LOAD, PARAMETERS, SET, STORE, TELL, code_with, parts_of, relabelled, small_code, small_parts,
                      small_task, with_later_first, with_registers, with_twice_the_period)
from jobs import FULL, TURNS

FAR = 10 ** 60
WRONG_PARTS = {
    "registers": [0, -1, 5, 6, FAR, True, False, None, "2", (2,), [2]],
    "names": [["a", "k"], ("k", "a"), ("a", "a"), ("a", "K"), ("a", ""), ("a", "toolong"), ("a", 1), ("a", None), "ak", None,
              ("a", "b", "c", "d", "e", "f", "g"), ("a", ("k",)), {"a": 1, "k": 2}],
    "modulus": [1, 0, -2, 10 ** 18 + 1, True, None, "1000", (1000,)],
    "constants": [None, [(1, 5)], ((1, 5),), {1: 1000}, {1: -1}, {1: True}, {1: None}, {2: 5}, {-1: 5}, {True: 5}, {"k": 5},
                  {"1": 5}, {None: 5}, {1: (5,)}, {1: "5"}, {(1,): 5}, {1: 5, 2: 5}],
    "inputs": [["a"], ("k",), ("a", "k"), ("b",), ("a", "a"), "a", None, ("A",), (1,), {"a": 1}, ((),)],
    "results": [["a"], ("k", "a"), ("b",), ("a", "a"), "a", None, ("A",), (True,), {"a": 1}],
    "first": [1, 0, -2, 401, FAR, True, None, "2", (2,)],
    "period": [0, -1, 401, FAR, True, None, "1", (1,)],
    "begins": [[((), None), ((), 0), ((), 0)], (((), None), ((), 0)), (((), None), ((), 0), ((), 0), ((), 0)), (), None,
               (((), 0), ((), 0), ((), 0)), (((), None), ((), None), ((), 0)), (((), None), ((), 0), ((), -1)),
               (((), None), ((), 0), ((), True)), (((), None), ((), 0), ((), "0")), (((), None), ((), 0), ([], 0)),
               (((), None), ((), 0), [(), 0]), (((), None), ((), 0), ((),)), (((), None), ((), 0), ((), 0, 0)),
               (((), None), ((), 0), None), {0: ((), None), 1: ((), 0), 2: ((), 0)}, (((), False), ((), 0), ((), 0))],
    "blocks": [None, [], {}, (), [(0, 1)], list(small_parts()["blocks"].items())],
    "holdings": [None, [], (), list(small_parts()["holdings"]), small_parts()["holdings"][:1],
                 {0: ((None, None), ("a",)), 1: (("a", "k"), ())}],
    "costs": [None, [], {}, {(0, 1): 6}, {**small_parts()["costs"], (2, 1): 0}, list(small_parts()["costs"].items())],
    "rise": [None, True, False, "0", (), [0], {}],
}
WRONG_INSTRUCTIONS = [
    None, (), [], "load", ["load", 0, 0], ("load",), ("load", 0), ("load", 0, 0, 0), ("load", 2, 0), ("load", -1, 0),
    ("load", 0, 2), ("load", 0, -1), ("load", True, 0), ("load", 0, True), ("load", "r0", 0), ("load", 0, "a"),
    ("load", None, 0), ("Load", 0, 0), ("move", 0, 0), (None, 0, 0), (1, 0, 0), (("load",), 0, 0), ("forget", 0),
    ("store", 2, 0), ("store", 0, 2), ("store", -1, 0), ("store", 0, -1), ("store", False, 0), ("store", 0, False), ("store", 0),
    ("set", 0, 0), ("set", 0, 2), ("set", 2, 1), ("set", True, 1), ("set", 0, True), ("set", 1), ("set", 0, 1, 5),
    ("tell",), ("tell", ()), ("tell", 0), ("tell", [0]), ("tell", (0, 1, 0, 1)), ("tell", (2,)), ("tell", (-1,)),
    ("tell", (True,)), ("tell", (None,)), ("tell", (0,), (1,)), ("tell", ((0,),)), ("tell", "0"), ["tell", (0,)],
    ("let", 0), ("let", 0, ()), ("let", 0, []), ("let", 0, [(1, (0,))]), ("let", 2, ((1, (0,)),)), ("let", True, ((1, (0,)),)),
    ("let", None, ((1, (0,)),)), ("let", 0, ((1, (0,)),) * 5), ("let", 0, ((1, (0,)), None)), ("let", 0, ([1, (0,)],)),
    ("let", 0, ((1,),)), ("let", 0, ((1, (0,), 0),)), ("let", 0, ((10 ** 6, (0,)),)), ("let", 0, ((-10 ** 6, (0,)),)),
    ("let", 0, ((True, (0,)),)), ("let", 0, (("1", (0,)),)), ("let", 0, ((None, (0,)),)), ("let", 0, ((1, [0]),)),
    ("let", 0, ((1, 0),)), ("let", 0, ((1, (0, 1, 0, 1)),)), ("let", 0, ((1, (2,)),)), ("let", 0, ((1, (-1,)),)),
    ("let", 0, ((1, (False,)),)), ("let", 0, ((1, ("a",)),)), ("let", 0, ((1, (0,)),), 0), ("let", 0, (1, (0,))),
]
RIGHT_INSTRUCTIONS = [
    ("load", 1, 1), ("store", 1, 1), ("set", 0, 1), ("tell", (0, 0, 1)), ("tell", (1,)), ("let", 1, ((0, ()),)),
    ("let", 0, ((999999, (0, 0, 0)), (-999999, (1, 1, 1)), (0, ()), (1, (0, 1)))),
]
WRONG_HOLDINGS = [
    None, (), [], ((None, None),), ((None, None), (), ()), [(None, None), ()], ([None, None], ()), ((None, None), []),
    ((None,), ()), ((None, None, None), ()), (("b", None), ()), (("A", None), ()), ((1, None), ()), ((False, None), ()),
    ((None, None), ("b",)), ((None, None), ("k", "a")), ((None, None), ("a", "a")), ((None, None), (None,)), ("ak", ()),
    ((None, None), "a"), ((None, None), None), ((("a",), None), ()), (([], None), ()), ((None, None), ([],)),
]


def told_wrong(test, part, **others):
    check_raises(test, BadCode(part), Code, **{**small_parts(), **others})


class Parts(unittest.TestCase):
    def test_parts_as_passed(self):
        wanted = small_parts()
        code = Code(*[small_parts()[name] for name in PARAMETERS])
        check_same(self, parts_of(code), wanted)
        self.assertEqual(code, small_code())
        other = {name: wanted[name] for name in reversed(PARAMETERS)}
        self.assertEqual(Code(**other), code)

    def test_each_part_wrong(self):
        fitting = {"names": ((), ("a",)), "constants": ({},), "inputs": ((), ("a",)), "results": ((), ("a",)),
                   "rise": (-1, -10 ** 59)}
        for part, values in WRONG_PARTS.items():
            for value in [*values, *ODD_VALUES, {"a": [1]}, small_task(), small_code()]:
                if value not in fitting.get(part, ()):
                    told_wrong(self, part, **{part: value})

    def test_integers_that_can_stand(self):
        for rise in (-10 ** 59, -1, 0, 10 ** 100):
            self.assertEqual(small_code(rise=rise).rise, rise)
        for modulus in (6, 10 ** 18):
            self.assertEqual(small_code(modulus=modulus).modulus, modulus)
        self.assertEqual(small_code(modulus=2, constants={1: 1}).constants, {1: 1})
        for value in (-10 ** 59, 0, 10 ** 80):
            costs = {**small_parts()["costs"], (1, 2): value}
            self.assertEqual(small_code(costs=costs).costs, costs)

    def test_both_ends_of_registers(self):
        for registers in (2, 3, 4):
            holdings = (((None,) * registers, ("a",)), (("a", "k", *[None] * (registers - 2)), ()))
            self.assertEqual(small_code(registers=registers, holdings=holdings).registers, registers)
        for registers, part in ((0, "registers"), (1, "blocks"), (3, "holdings"), (4, "holdings"), (5, "registers")):
            told_wrong(self, part, registers=registers)
        code = Code(1, (), 2, {}, (), (), 2, 1, (((), None), ((), 0), ((), 0)), {(0, 1): ((), None), (0, 2): ((), 0)},
                    (((None,), ()),), {(0, 1): 0, (0, 2): 0}, 0)
        self.assertEqual((code.registers, code.names, code.constants), (1, (), {}))
        check_raises(self, BadCode("names"), code_with, code, names=tuple("abcdefg"))
        self.assertEqual(code_with(code, names=tuple("abcdef")).names, tuple("abcdef"))

    def test_both_ends_of_stages(self):
        for first, period in ((2, 1), (2, 400), (400, 1), (400, 400), (2, 2), (3, 1)):
            begins = (((), None), *[((), 0)] * (first + period - 1))
            blocks = {(0, stage): ((), 0 if stage > 1 else None) for stage in range(1, first + period)}
            costs = {key: 0 for key in blocks}
            code = small_code(first=first, period=period, begins=begins, blocks=blocks, costs=costs)
            self.assertEqual((code.first, code.period, len(code.begins)), (first, period, first + period))
            told_wrong(self, "begins", first=first + 1 if first < 400 else 399, period=period, begins=begins, blocks=blocks,
                       costs=costs)
            told_wrong(self, "begins", first=first, period=period, begins=begins[:-1], blocks=blocks, costs=costs)
            for stage in (0, first + period, -1):
                more = {**blocks, (0, stage): ((), 0)}
                told_wrong(self, "blocks", first=first, period=period, begins=begins, blocks=more, costs=costs)

    def test_two_wrong_at_once(self):
        for at, part in enumerate(PARAMETERS):
            for other in PARAMETERS[at + 1:]:
                told_wrong(self, part, **{part: None, other: None})
                told_wrong(self, part, **{part: WRONG_PARTS[part][0], other: WRONG_PARTS[other][-1]})
        told_wrong(self, "registers", **{part: None for part in PARAMETERS})

    def test_parts_that_do_not_fit_earlier_ones(self):
        told_wrong(self, "constants", names=("a",), inputs=None)
        told_wrong(self, "constants", modulus=5)
        told_wrong(self, "inputs", constants={0: 5, 1: 5})
        told_wrong(self, "inputs", names=("b", "k"))
        told_wrong(self, "blocks", constants={})
        told_wrong(self, "begins", period=2)
        told_wrong(self, "costs", costs={**small_parts()["costs"], (0, 3): 0})

    def test_instructions(self):
        begins, blocks = small_parts()["begins"], small_parts()["blocks"]
        for instruction in WRONG_INSTRUCTIONS:
            for at in range(3):
                wrong = list(begins)
                wrong[at] = ((STORE, instruction), begins[at][1])
                told_wrong(self, "begins", begins=tuple(wrong))
            for key, (instructions, label) in blocks.items():
                told_wrong(self, "blocks", blocks={**blocks, key: (instructions + (instruction,), label)})
        for instruction in RIGHT_INSTRUCTIONS:
            for key, (instructions, label) in blocks.items():
                new = {**blocks, key: (instructions + (instruction,), label)}
                self.assertEqual(small_code(blocks=new).blocks, new)
            new = (begins[0], ((instruction,) * 3, 0), begins[2])
            self.assertEqual(small_code(begins=new).begins, new)

    def test_blocks(self):
        blocks = small_parts()["blocks"]
        for key in ((0, 3), (0, 0), (-1, 1), (0,), (0, 1, 1), 0, None, "01", ("0", 1), (0, None), ("a", "b")):
            told_wrong(self, "blocks", blocks={**blocks, key: ((), 1)})
        told_wrong(self, "blocks", blocks={**blocks, (-1, 1): ((), None)})
        told_wrong(self, "blocks", blocks={**blocks, (-1, 2): ((), 1)})
        for key, own in (((True, 1), (1, 1)), ((False, 2), (0, 2)), ((0, True), (0, 1))):
            told_wrong(self, "blocks", blocks={key if old == own else old: block for old, block in blocks.items()})
        for key, (instructions, label) in blocks.items():
            for block in ((instructions, -1), (instructions, True), (instructions, "0"), (instructions, (0,)), (instructions,),
                          [instructions, label], (list(instructions), label), (instructions, label, label), None, (),
                          (None, label), (instructions, 0 if label is None else None), (label, instructions)):
                told_wrong(self, "blocks", blocks={**blocks, key: block})

    def test_closed(self):
        blocks = small_parts()["blocks"]
        for key in blocks:
            told_wrong(self, "blocks", blocks={other: block for other, block in blocks.items() if other != key})
        # Stage 2 is first here: its blocks want those of stage 1, and those of the last stage.
        begins = (((), None), ((), 0), ((), 0), ((), 0))
        blocks = {(0, 1): ((), None), (1, 1): ((), None), (0, 2): ((), 1), (0, 3): ((), 0), (1, 3): ((), 0)}
        holdings = small_parts()["holdings"]
        told = {"period": 2, "begins": begins, "holdings": holdings}
        self.assertEqual(small_code(**told, blocks=blocks, costs={key: 0 for key in blocks}).blocks, blocks)
        for key in blocks:
            told_wrong(self, "blocks", **told, blocks={other: block for other, block in blocks.items() if other != key})
        # A begin of a last stage, a block of a later stage that nobody comes to, and one at which the stages come round.
        told_wrong(self, "blocks", **{**told, "begins": begins[:3] + (((), 1),)}, blocks={**blocks, (1, 3): ((), 1)})
        more = {**blocks, (2, 3): ((), 1)}
        told_wrong(self, "blocks", **told, blocks=more)
        more = {**blocks, (2, 2): ((), 0)}
        self.assertEqual(len(small_code(**{**told, "holdings": holdings + holdings[:1]}, blocks=more,
                                        costs={key: 0 for key in more}).blocks), 6)
        for label in (1, 2):
            more = {**blocks, (2, 2): ((), label)}
            self.assertEqual((label, 1) in more and (label, 3) in more, label == 1)
            if label == 2:
                told_wrong(self, "blocks", **told, blocks=more)

    def test_closed_with_later_stages(self):
        begins = (((), None), ((), 0), ((), 0), ((), 0), ((), 0))
        blocks = {(0, 1): ((), None), (0, 2): ((), 0), (0, 3): ((), 0), (0, 4): ((), 1), (1, 3): ((), 0)}
        told = {"first": 3, "period": 2, "begins": begins}
        self.assertEqual(small_code(**told, blocks=blocks, costs={key: 0 for key in blocks}).first, 3)
        for key in blocks:
            told_wrong(self, "blocks", **told, blocks={other: block for other, block in blocks.items() if other != key})

    def test_blocks_nobody_comes_to(self):
        blocks, costs, holdings = small_parts()["blocks"], small_parts()["costs"], small_parts()["holdings"]
        for more in ({(2, 1): ((), None)}, {(2, 1): ((), None), (2, 2): ((), 0)}, {(2, 2): ((), 1)}):
            told = {"blocks": {**blocks, **more}, "costs": {**costs, **{key: 0 for key in more}}}
            told_wrong(self, "holdings", **told)
            code = small_code(**told, holdings=holdings + holdings[:1])
            self.assertEqual(code.blocks, told["blocks"])
        more = {(0, 2): ((), 2), (2, 1): ((), None), (2, 2): ((), 1)}
        told_wrong(self, "holdings", blocks={**blocks, **more}, costs={**costs, **{key: 0 for key in more}})
        for label in (10 ** 59, 2):
            told_wrong(self, "holdings", blocks={**blocks, (label, 1): ((), None)}, costs={**costs, (label, 1): 0})

    def test_holdings(self):
        holdings = small_parts()["holdings"]
        for wrong in WRONG_HOLDINGS:
            told_wrong(self, "holdings", holdings=(wrong, holdings[1]))
            told_wrong(self, "holdings", holdings=(holdings[0], wrong))
            told_wrong(self, "holdings", holdings=holdings + (wrong,))
        for right in (((None, None), ()), (("a", "a"), ("a", "k")), (("k", "a"), ("k",)), ((None, "a"), ("a",))):
            self.assertEqual(small_code(holdings=(right, right)).holdings, (right, right))
            self.assertEqual(len(small_code(holdings=holdings + (right,) * 7).holdings), 9)

    def test_costs(self):
        costs = small_parts()["costs"]
        for key in costs:
            less = {other: cost for other, cost in costs.items() if other != key}
            told_wrong(self, "costs", costs=less)
            for value in (None, True, "6", (6,), [6]):
                told_wrong(self, "costs", costs={**costs, key: value})
            for other in ((9, 1), None, "a", (0,), 0, (*key, 0), (key,)):
                told_wrong(self, "costs", costs={**less, other: 1})
                told_wrong(self, "costs", costs={**costs, other: 1})
        for key, own in (((True, 1), (1, 1)), ((False, 2), (0, 2)), ((0, True), (0, 1))):
            told_wrong(self, "costs", costs={key if old == own else old: cost for old, cost in costs.items()})

    def test_values_of_many_parts(self):
        for part in PARAMETERS:
            for value in ([0] * 5000, ((1, 2),) * 5000, {at: (at,) for at in range(5000)}, {(at, 1): ((), None) for at in range(5)}):
                told_wrong(self, part, **{part: value})


class Kept(unittest.TestCase):
    def test_dicts_that_are_changed_later(self):
        parts = small_parts()
        code = Code(**parts)
        for name in ("constants", "blocks", "costs"):
            parts[name].clear()
        self.assertEqual(code, small_code())
        for name in ("constants", "blocks", "costs"):
            getattr(code, name).clear()
            self.assertIsNot(getattr(code, name), getattr(code, name))
        check_same(self, parts_of(code), small_parts())

    def test_arguments_stay_as_they_were(self):
        parts = small_parts()
        before = copy.deepcopy(parts)
        Code(**parts)
        check_same(self, parts, before)
        for part in PARAMETERS:
            parts = {**small_parts(), part: None}
            before = copy.deepcopy(parts)
            check_raises(self, BadCode(part), Code, **parts)
            check_same(self, parts, before)


class Equality(unittest.TestCase):
    def test_equal(self):
        for code in [small_code(), *[code_for(task) for task, *_ in TURNS[:2]]]:
            parts = parts_of(code)
            for name in ("constants", "blocks", "costs"):
                parts[name] = dict(reversed(list(parts[name].items())))
            self.assertIs(code == Code(**copy.deepcopy(parts)), True)
            self.assertIs(code != Code(**copy.deepcopy(parts)), False)

    def test_unlike(self):
        code = small_code()
        parts = small_parts()
        holdings = parts["holdings"]
        for others in ({"modulus": 999}, {"constants": {1: 6}}, {"results": ()}, {"results": ("a", "k")}, {"inputs": ()},
                       {"rise": 1}, {"costs": {**parts["costs"], (0, 1): 7}}, {"holdings": holdings + holdings[:1]},
                       {"holdings": (holdings[0], (("a", "k"), ("a",)))}, {"names": ("a", "k", "z")},
                       {"begins": (((STORE,), None), ((), 0), ((), 0))},
                       {"blocks": {**parts["blocks"], (1, 1): ((ADD, STORE, TELL), None)}}):
            other = small_code(**others)
            self.assertIs(code == other, False)
            self.assertIs(code != other, True)
        for other in (relabelled(code, {0: 1, 1: 0}), with_registers(code, [1, 0]), with_twice_the_period(code),
                      with_later_first(code)):
            self.assertIs(code == other, False)
            self.assertIs(other != code, True)

    def test_other_kinds(self):
        code = small_code()
        for other in [*ODD_VALUES, small_parts(), tuple(small_parts().values()), small_task(), small_task().work]:
            self.assertIs(code == other, False)
            self.assertIs(other == code, False)
            self.assertIs(code != other, True)
            self.assertIs(other != code, True)


class Stages(unittest.TestCase):
    def test_stages(self):
        for task, *_ in TURNS + [(task,) for task in FULL]:
            code = code_for(task)
            first, period = code.first, code.period
            for j in [*range(first + 3 * period), *range(10 ** 60, 10 ** 60 + period)]:
                stage = code.stage(j)
                self.assertIs(type(stage), int)
                self.assertEqual(stage, j if j < first else first + (j - first) % period)
            for far in (10 ** 59, 10 ** 60 + 7):
                self.assertEqual(code.stage(first + far * period), first)
                self.assertEqual(code.stage(first + far * period - 1), first + period - 1)
        self.assertEqual([code.stage(j=n) for n in (0, 1)], [0, 1])

    def test_values_that_are_none(self):
        code = small_code()
        for value in [value for value in ODD_VALUES] + [-10 ** 60, "0", (0,), code]:
            check_raises(self, BadNumber(value), code.stage, value)


class Flat(unittest.TestCase):
    def test_small_codes(self):
        self.assertIs(small_code().is_flat, False)
        blocks = small_parts()["blocks"]
        silent = {key: (tuple(one for one in block[0] if one != TELL or key[1] == 1), block[1]) for key, block in blocks.items()}
        self.assertIs(small_code(blocks=silent).is_flat, True)
        for key, block in silent.items():
            for more, flat in ((TELL, False), (("let", 0, ((1, (0,)), (0, (0, 1)))), False), (("let", 0, ((2, ()),)), True),
                               (LOAD, True), (SET, True), (STORE, True), (("let", 1, ((2, (0,)), (3, (1,)))), True),
                               (("let", 1, ((2, (0, 0, 0)),)), False)):
                other = {**silent, key: (block[0] + (more,), block[1])}
                self.assertIs(small_code(blocks=other).is_flat, flat or key[1] == 1)

    def test_begins_do_not_count(self):
        begins = (((TELL,), None), ((TELL,), 0), ((("let", 0, ((1, (0, 1)),)), TELL), 0))
        blocks = {(0, 1): ((TELL,), None), (0, 2): ((), 0)}
        self.assertIs(small_code(begins=begins, blocks=blocks, costs={(0, 1): 0, (0, 2): 0}).is_flat, True)

    def test_blocks_nobody_comes_to(self):
        blocks = {(0, 1): ((TELL,), None), (0, 2): ((), 0), (1, 2): ((TELL,), 0)}
        self.assertIs(small_code(blocks=blocks, costs={key: 0 for key in blocks}).is_flat, False)


class Interface(unittest.TestCase):
    def test_names_stand_in_the_class(self):
        self.assertEqual(Code.__module__, "leastcode.codes")
        for name in (*PARAMETERS, "is_flat"):
            self.assertIsInstance(vars(Code)[name], property)
        for name in ("stage", "__eq__"):
            self.assertTrue(callable(vars(Code)[name]))


if __name__ == "__main__":
    unittest.main()

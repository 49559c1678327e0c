import copy
import random
import unittest

from leastcode.codelook import fault_of, shows_code
from leastcode.codes import Code
from leastcode.coding import code_for
from leastcode.errors import BadCode, LeastError
from leastcode.prices import Prices
from leastcode.rows import Row
from leastcode.tables import row
from leastcode.tasks import Task
from leastcode.works import Work
from helping import ODD_VALUES, check_raises, check_same
from handmade import (ADD, LOAD, SET, STORE, TELL, code_with, parts_of, relabelled, small_code, small_parts, small_row,
                      small_task, with_later_first, with_registers, with_twice_the_period)
from jobs import FULL, TURNS, job, work_of
from plain import draw_task
from reading import plain_fault, plain_price, told_price, unfit

SMALL = small_task()
OTHER_NAMES = {"names": ("a", "z"), "holdings": (((None, None), ("a",)), (("a", "z"), ()))}


def with_block(key, instructions, code=None, **others):
    """A code whose block has other instructions."""
    code = code or small_code()
    return code_with(code, blocks={**code.blocks, key: (tuple(instructions), code.blocks[key][1])}, **others)


def with_begin(stage, instructions, code=None):
    """A code whose begin has other instructions."""
    code = code or small_code()
    begins = list(code.begins)
    begins[stage] = (tuple(instructions), begins[stage][1])
    return code_with(code, begins=tuple(begins))


class Faults(unittest.TestCase):
    def check(self, work, code, wanted):
        check_same(self, fault_of(work, code), wanted)
        check_same(self, plain_fault(work, code), wanted)

    def test_right_codes(self):
        self.check(SMALL.work, small_code(), None)
        for task in [task for task, *_ in TURNS] + FULL:
            code = code_for(task)
            labels = {label: len(code.holdings) - 1 - label for label in range(len(code.holdings))}
            for other in (code, relabelled(code, labels), with_registers(code, list(range(code.registers))[::-1]),
                          with_twice_the_period(code), with_later_first(code), with_twice_the_period(with_later_first(code)),
                          code_with(code, holdings=code.holdings + (((None,) * code.registers, ()),))):
                self.check(task.work, other, None)
        self.assertIsNone(fault_of(code=small_code(), work=SMALL.work))

    def test_blocks_nobody_comes_to(self):
        parts = small_parts()
        for more, wanted in (((LOAD, SET, ADD, TELL, STORE), None), ((), (2, 1, 0, "lines")), ((ADD,), (2, 1, 0, "sum"))):
            code = small_code(blocks={**parts["blocks"], (2, 1): (more, None)}, costs={**parts["costs"], (2, 1): 6},
                              holdings=parts["holdings"] + (((None, None), ("a",)),))
            self.check(SMALL.work, code, wanted)

    def test_a_name_in_two_registers(self):
        parts = small_parts()
        holdings = (parts["holdings"][0], (("a", "a"), ()))
        blocks = {**parts["blocks"], (1, 1): ((SET, ADD, TELL, STORE), None),
                  (0, 2): ((LOAD, ("load", 1, 0), TELL, SET, ADD, TELL), 1)}
        code = small_code(holdings=holdings, blocks=blocks)
        self.check(SMALL.work, code, (0, 2, 2, "line"))
        work = work_of("given a b; results a; loop; tell a b; end")
        begins = (((), None), ((("load", 0, 0), ("load", 1, 0)), 0), ((("load", 1, 0), ("load", 0, 0)), 0))
        blocks = {(0, 1): ((("load", 1, 1), ("tell", (0, 1))), None), (0, 2): ((("load", 1, 1), ("tell", (0, 1)), ("load", 1, 0)), 0)}
        code = Code(2, ("a", "b"), 1000, {}, ("a", "b"), ("a",), 2, 1, begins, blocks, ((("a", "a"), ("a", "b")),),
                    {key: 0 for key in blocks}, 0)
        self.check(work, code, None)
        self.check(work, with_block((0, 2), (("load", 1, 1), ("tell", (0, 1))), code), (0, 2, 2, "holding"))

    def test_a_made_name_leaves_all_other_registers_and_cells(self):
        work = work_of("given a; results a; loop; a = a + 1; end")
        let = ("let", 0, ((1, (1,)), (1, ())))
        begins = (((), None), ((), 0), ((), 0))

        def code(block):
            blocks = {(0, 1): (block, None), (0, 2): ((LOAD, ("let", 0, ((1, (0,)), (1, ()))), STORE), 0)}
            return Code(2, ("a",), 1000, {}, ("a",), ("a",), 2, 1, begins, blocks, (((None, None), ("a",)),), {(0, 1): 0, (0, 2): 0}, 0)
        load = ("load", 1, 0)
        self.check(work, code((load, LOAD, let, STORE)), None)
        self.check(work, code((load, LOAD, let)), (0, 1, 3, "results"))
        self.check(work, code((load, let, STORE)), None)
        self.check(work, code((load, LOAD, let, ("store", 0, 1), STORE)), (0, 1, 3, "unheld"))
        self.check(work, code((load, LOAD, let, ("load", 1, 0), STORE)), (0, 1, 3, "unstored"))
        self.check(work, code((load, LOAD, let, STORE, ("load", 1, 0))), None)

    def test_unstored(self):
        self.check(SMALL.work, with_begin(0, [("load", 0, 1)]), (None, 0, 0, "unstored"))
        self.check(SMALL.work, with_begin(2, [LOAD, ("load", 1, 1)]), (None, 2, 1, "unstored"))
        self.check(SMALL.work, with_block((0, 1), [LOAD, SET, ADD, LOAD]), (0, 1, 3, "unstored"))
        self.check(SMALL.work, with_block((1, 2), [LOAD, ADD, TELL]), (1, 2, 0, "unstored"))
        self.check(SMALL.work, with_block((1, 2), [STORE, LOAD, ADD, TELL]), None)

    def test_unheld(self):
        self.check(SMALL.work, with_begin(0, [STORE]), (None, 0, 0, "unheld"))
        self.check(SMALL.work, with_begin(1, [LOAD, ("store", 0, 1)]), (None, 1, 1, "unheld"))
        self.check(SMALL.work, with_begin(1, [LOAD, ("store", 1, 0)]), (None, 1, 1, "unheld"))
        self.check(SMALL.work, with_block((0, 1), [LOAD, SET, ADD, TELL, ("store", 0, 1)]), (0, 1, 4, "unheld"))
        self.check(SMALL.work, with_block((1, 2), [ADD, TELL, ("store", 1, 0)]), (1, 2, 2, "unheld"))
        self.check(SMALL.work, with_block((1, 2), [ADD, TELL, ("store", 1, 1)]), None)

    def test_line(self):
        self.check(SMALL.work, with_begin(0, [LOAD, TELL]), (None, 0, 1, "line"))
        self.check(SMALL.work, with_begin(2, [LOAD, SET, ADD]), (None, 2, 2, "line"))
        self.check(SMALL.work, with_block((0, 1), [LOAD, SET, TELL, ADD, STORE]), (0, 1, 2, "line"))
        self.check(SMALL.work, with_block((1, 2), [ADD, ADD, TELL]), (1, 2, 1, "line"))
        self.check(SMALL.work, with_block((1, 2), [ADD, TELL, TELL]), (1, 2, 2, "line"))
        self.check(SMALL.work, with_block((1, 2), [ADD, TELL, ADD]), (1, 2, 2, "line"))

    def test_sum(self):
        for terms in (((1, (1,)), (1, (0,))), ((1, (0,)),), ((1, (0,)), (2, (1,))), ((-1, (0,)), (1, (1,))), ((1, (0,)), (1, (0,))),
                      ((1, (0,)), (1, (1,)), (0, ())), ((1, (0,)), (5, ())), ((1, (0, 1)),)):
            self.check(SMALL.work, with_block((0, 1), [LOAD, SET, ("let", 0, terms), TELL, STORE]), (0, 1, 2, "sum"))
            self.check(SMALL.work, with_block((1, 2), [("let", 0, terms), TELL]), (1, 2, 0, "sum"))
        self.check(SMALL.work, with_block((0, 1), [LOAD, ADD, TELL, STORE]), (0, 1, 1, "sum"))
        self.check(SMALL.work, with_block((0, 1), [LOAD, ("let", 1, ((1, (0,)), (1, (1,))))]), (0, 1, 1, "sum"))

    def test_over(self):
        self.check(SMALL.work, with_block((0, 1), [LOAD, SET, ("let", 1, ADD[2]), ("tell", (1,)), ("store", 0, 1)]), (0, 1, 2, "over"))
        self.check(SMALL.work, with_block((1, 2), [("let", 1, ADD[2]), TELL]), (1, 2, 0, "over"))
        work = work_of("given a b; results b; loop; b = a; end")

        def code(register, instructions):
            let = ("let", register, ((1, (0,)),))
            blocks = {(0, 1): ((*instructions, let, ("store", 1, register)), None),
                      (0, 2): ((*instructions, let, ("store", 1, register)), 0)}
            return Code(2, ("a", "b"), 1000, {}, ("a", "b"), ("b",), 2, 1, (((), None), ((), 0), ((), 0)), blocks,
                        (((None, None), ("a", "b")),), {(0, 1): 0, (0, 2): 0}, 0)
        self.check(work, code(1, [LOAD]), None)
        self.check(work, code(1, [LOAD, ("load", 1, 1)]), None)
        self.check(work, code(1, [("load", 1, 0), LOAD]), None)
        self.check(work, code(0, [LOAD]), (0, 1, 1, "over"))
        self.check(work, code(0, [LOAD, ("load", 1, 1)]), (0, 1, 2, "over"))
        self.check(work, code(0, [("load", 0, 1)]), (0, 1, 1, "sum"))

    def test_names(self):
        for registers in ((1,), (0, 1), (0, 0), (1, 0)):
            self.check(SMALL.work, with_block((0, 1), [LOAD, SET, ADD, ("tell", registers), STORE]), (0, 1, 3, "names"))
            self.check(SMALL.work, with_block((1, 2), [ADD, ("tell", registers)]), (1, 2, 1, "names"))
        work = work_of("given a b; tell a b; loop; end; tell b a")
        begins = (((LOAD, ("load", 1, 1), ("tell", (0, 1)), ("tell", (1, 0))), None),
                  *[((LOAD, ("load", 1, 1), ("tell", (0, 1))), 0)] * 2)
        blocks = {(0, 1): ((("tell", (1, 0)),), None), (0, 2): ((), 0)}
        code = Code(2, ("a", "b"), 1000, {}, ("a", "b"), (), 2, 1, begins, blocks, ((("a", "b"), ()),), {(0, 1): 0, (0, 2): 0}, 0)
        self.check(work, code, None)
        self.check(work, with_block((0, 1), [("tell", (0, 1))], code), (0, 1, 0, "names"))
        self.check(work, with_begin(0, [LOAD, ("load", 1, 1), ("tell", (0, 1)), ("tell", (0, 1))], code), (None, 0, 3, "names"))
        self.check(work, with_begin(2, [LOAD, ("load", 1, 1), ("tell", (1, 0))], code), (None, 2, 2, "names"))
        self.check(work, with_begin(0, [LOAD, ("load", 1, 1), ("tell", (0, 1))], code), (None, 0, 3, "lines"))
        self.check(work, with_begin(1, [LOAD, ("load", 1, 1)], code), (None, 1, 2, "lines"))
        self.check(work, with_block((0, 1), [], code), (0, 1, 0, "lines"))

    def test_lines(self):
        self.check(SMALL.work, with_block((0, 1), [LOAD, SET, ADD, STORE]), (0, 1, 4, "lines"))
        self.check(SMALL.work, with_block((0, 2), []), (0, 2, 0, "lines"))
        self.check(SMALL.work, with_block((1, 2), [ADD]), (1, 2, 1, "lines"))
        work = work_of("given a; fixed k 5 2; results a; tell a; loop; a = a + k; tell a; end")
        self.check(work, small_code(), (None, 0, 0, "lines"))
        self.check(work, with_begin(0, [LOAD, TELL]), (None, 1, 0, "lines"))

    def test_results(self):
        self.check(SMALL.work, with_block((0, 1), [LOAD, SET, ADD, TELL]), (0, 1, 4, "results"))
        self.check(SMALL.work, with_block((1, 1), [ADD, TELL]), (1, 1, 2, "results"))
        work = work_of("given a; fixed k 5 2; results a k; loop; a = a + k; tell a; end")
        code = small_code(results=("a", "k"))
        self.check(work, code, (None, 0, 0, "results"))
        code = with_begin(0, [SET, ("store", 1, 1)], code)
        self.check(work, code, (0, 1, 5, "results"))
        code = with_block((0, 1), [LOAD, SET, ("store", 1, 1), ADD, TELL, STORE], code)
        self.check(work, code, (1, 1, 3, "results"))
        self.check(work, with_block((1, 1), [ADD, TELL, STORE, ("store", 1, 1)], code), None)

    def test_holding(self):
        parts = small_parts()
        for holding, wanted in (((("a", None), ("a",)), (None, 1, 0, "holding")), (((None, "k"), ("a",)), (None, 1, 0, "holding")),
                                (((None, None), ("a", "k")), (None, 1, 0, "holding")), (((None, None), ("k",)), (None, 1, 0, "holding")),
                                (((None, None), ()), (0, 1, 0, "unstored"))):
            self.check(SMALL.work, small_code(holdings=(holding, parts["holdings"][1])), wanted)
        for holding, wanted in (((("a", "k"), ("a",)), (0, 2, 4, "holding")), ((("k", "a"), ()), (0, 2, 4, "holding")),
                                ((("a", "a"), ()), (0, 2, 4, "holding")), ((("a", "k"), ("k",)), (0, 2, 4, "holding")),
                                (((None, "k"), ()), (1, 1, 0, "sum")), ((("a", None), ()), (1, 1, 0, "sum"))):
            self.check(SMALL.work, small_code(holdings=(parts["holdings"][0], holding)), wanted)
        self.check(SMALL.work, with_begin(2, [LOAD, SET]), None)
        self.check(SMALL.work, with_block((1, 2), [ADD, TELL, ("set", 0, 1)]), (1, 2, 3, "holding"))

    def test_two_faults_at_once(self):
        wrong = [("load", 0, 1)]
        code = small_code()
        places = [("begin", 0), ("begin", 1), ("begin", 2), ("block", (0, 1)), ("block", (0, 2)), ("block", (1, 1)), ("block", (1, 2))]

        def broken(code, place):
            kind, at = place
            return with_begin(at, wrong, code) if kind == "begin" else with_block(at, wrong, code)
        for one in range(len(places)):
            for other in range(one, len(places)):
                kind, at = places[one]
                wanted = (None, at) if kind == "begin" else at
                self.check(SMALL.work, broken(broken(code, places[other]), places[one]), (*wanted, 0, "unstored"))
        self.check(SMALL.work, with_block((0, 1), [LOAD, ("load", 0, 1), STORE, STORE]), (0, 1, 1, "unstored"))
        self.check(SMALL.work, with_block((0, 1), [LOAD, ("store", 0, 1), ("load", 0, 1)]), (0, 1, 1, "unheld"))
        self.check(SMALL.work, with_block((0, 1), [LOAD, SET]), (0, 1, 2, "lines"))

    def test_labels_come_ahead_of_stages(self):
        parts = small_parts()
        code = with_twice_the_period(small_code())
        code = with_block((0, 3), [], with_block((1, 1), [], code))
        self.check(SMALL.work, code, (0, 3, 0, "lines"))
        self.check(SMALL.work, relabelled(code, {0: 1, 1: 0}), (0, 1, 0, "lines"))
        self.assertEqual(len(parts["blocks"]) + 2, len(code.blocks))

    def test_labels_of_two_digits(self):
        parts = small_parts()
        holdings = parts["holdings"] + (parts["holdings"][0],) * 9
        blocks = {**parts["blocks"], (10, 1): ((), None), (9, 1): ((), None)}
        code = small_code(holdings=holdings, blocks=blocks, costs={**parts["costs"], (10, 1): 0, (9, 1): 0})
        self.check(SMALL.work, code, (9, 1, 0, "lines"))

    def test_changed_instructions(self):
        seen = {}
        for seed in range(250):
            rng = random.Random(seed)
            task = rng.choice([task for task, *_ in TURNS[:4]] + FULL + [SMALL])
            code = code_for(task)
            blocks = code.blocks
            key = rng.choice(sorted(blocks))
            instructions = list(blocks[key][0])
            kind = rng.randrange(4)
            at = rng.randrange(len(instructions)) if instructions else 0
            if kind == 0 and instructions:
                instructions.pop(at)
            elif kind == 1 and instructions:
                instructions.insert(at, instructions[at])
            elif kind == 2:
                rng.shuffle(instructions)
            else:
                other = rng.choice([one for instructions, _ in blocks.values() for one in instructions] or [()])
                instructions[at:at + 1] = [other] if other else []
            other = with_block(key, instructions, code)
            said = fault_of(task.work, other)
            check_same(self, said, plain_fault(task.work, other))
            word = said and said[3]
            seen[word] = seen.get(word, 0) + 1
        self.assertGreaterEqual(len(seen), 8)

    def test_other_works(self):
        for task in [task for task, *_ in TURNS] + FULL:
            code = code_for(task)
            for j in (2, 3):
                if task.work.loop:
                    other = task.work ** j
                    check_same(self, fault_of(other, code), plain_fault(other, code))
                    self.assertIsNotNone(fault_of(other, code))
                    other = task.work.unrolled(j)
                    check_same(self, fault_of(other, code), plain_fault(other, code))

    def test_parts_that_are_not_the_works(self):
        work = SMALL.work
        wrong = {"begins": (((STORE,), None), ((), 0), ((), 0))}
        for part, others in (("names", OTHER_NAMES), ("names", {"names": ("a", "k", "z")}), ("modulus", {"modulus": 999}),
                             ("constants", {"constants": {1: 6}}), ("constants", {"constants": {0: 5, 1: 5}, "inputs": ()}),
                             ("inputs", {"inputs": ()}), ("results", {"results": ()}), ("results", {"results": ("a", "k")})):
            check_raises(self, BadCode(part), fault_of, work, small_code(**others))
            check_raises(self, BadCode(part), fault_of, work, small_code(**others, **wrong))
        rows = [("names", OTHER_NAMES), ("modulus", {"modulus": 7}), ("constants", {"constants": {1: 6}}),
                ("inputs", {"inputs": ()}), ("results", {"results": ()})]
        for at, (part, others) in enumerate(rows):
            for _, more in rows[at:]:
                check_raises(self, BadCode(part), fault_of, work, small_code(**{**more, **others}))
        check_raises(self, BadCode("names"), fault_of, Work([], []), small_code())
        check_raises(self, BadCode("constants"), fault_of, work_of("given a k; loop; tell a k; end"), small_code())


class Shows(unittest.TestCase):
    def check(self, task, told, code, wanted):
        self.assertIs(shows_code(task, told, code), wanted)

    def test_yes(self):
        self.check(SMALL, small_row(), small_code(), True)
        for task in [task for task, *_ in TURNS] + FULL + [draw_task(random.Random(seed), "abcd", 4) for seed in range(60)]:
            code, told = code_for(task), row(task)
            self.check(task, told, code, True)
            labels = {label: len(code.holdings) - 1 - label for label in range(len(code.holdings))}
            for other in (relabelled(code, labels), with_registers(code, list(range(code.registers))[::-1]),
                          with_twice_the_period(code), with_later_first(code), with_twice_the_period(with_later_first(code))):
                self.check(task, told, other, True)
            self.check(task, Row([told[n] for n in range(9 + len(told.numbers))], told.period, told.step), code, True)
        self.assertIs(shows_code(code=small_code(), row=small_row(), task=small_task()), True)

    def test_dearer_codes_with_the_row_of_their_prices(self):
        blocks, costs = small_parts()["blocks"], small_parts()["costs"]
        code = small_code(blocks={**blocks, (1, 2): ((ADD, TELL, STORE), 1)}, costs={**costs, (1, 2): 2, (0, 2): 6}, rise=1)
        self.assertEqual([told_price(SMALL, code, n) for n in range(5)], [0, 6, 6, 7, 8])
        self.assertEqual(unfit(SMALL, code), [])
        self.check(SMALL, Row([0, 6, 6], 1, 1), code, True)
        self.check(SMALL, small_row(), code, False)
        begins = (((LOAD,), None), ((LOAD,), 0), ((), 0))
        self.check(SMALL, Row([3, 9, 6], 1, 0), small_code(begins=begins), True)
        self.check(SMALL, Row([3, 9, 6, 6], 1, 0), small_code(begins=begins), True)
        self.check(SMALL, Row([3, 9, 6, 7], 1, 0), small_code(begins=begins), False)

    def test_costs_otherwise(self):
        for task in [SMALL] + [task for task, *_ in TURNS[:2]] + FULL:
            code, told = code_for(task), row(task)
            for key in sorted(code.costs)[:12] + sorted(code.costs)[-6:]:
                for change in (-1, 1):
                    self.check(task, told, code_with(code, costs={**code.costs, key: code.costs[key] + change}), False)
            self.check(task, told, code_with(code, costs={key: cost + 1 for key, cost in code.costs.items()}), False)
            for change in (-1, 1):
                self.check(task, told, code_with(code, rise=code.rise + change), False)

    def test_costs_of_blocks_nobody_comes_to(self):
        parts = small_parts()
        for cost in (5, 6, 7):
            code = small_code(blocks={**parts["blocks"], (2, 1): parts["blocks"][0, 1]}, costs={**parts["costs"], (2, 1): cost},
                              holdings=parts["holdings"] + parts["holdings"][:1])
            self.check(SMALL, small_row(), code, cost == 6)

    def test_rows_otherwise(self):
        for task in [SMALL] + [task for task, *_ in TURNS] + FULL:
            code, told = code_for(task), row(task)
            numbers, period, step = list(told.numbers), told.period, told.step
            for at in range(len(numbers)):
                for change in (-1, 1):
                    self.check(task, Row(numbers[:at] + [numbers[at] + change] + numbers[at + 1:], period, step), code, False)
            self.check(task, Row(numbers, period, step + 1), code, False)
            self.check(task, Row(numbers, period, step - 1), code, False)
            far = [told[n] for n in range(code.first + 3 * code.period + 3)]
            for at in range(code.first, len(far)):
                self.check(task, Row(far[:at] + [far[at] + 1] + far[at + 1:], period, step), code, False)

    def test_starts_and_periods(self):
        # The same numbers for the stages, but the row goes on by another rule.
        self.check(SMALL, Row([0, 6, 6, 6, 7], 1, 0), small_code(), False)
        self.check(SMALL, Row([0, 6, 6], 2, 0), small_code(), True)
        self.check(SMALL, Row([0, 6, 6, 7], 2, 1), small_code(), False)
        self.check(SMALL, Row([0, 6, 6], 1, 1), small_code(), False)
        task = TURNS[2][0]
        code, told = code_for(task), row(task)
        self.assertEqual((code.period, told.period), (2, 2))
        numbers = [told[n] for n in range(code.first + 2)]
        self.check(task, Row(numbers, 2, 3), code, True)
        self.check(task, Row(numbers, 1, 3), code, False)
        self.check(task, Row([told[n] for n in range(code.first + 3)], 3, 4), code, False)

    def test_instructions_otherwise(self):
        for seed in range(80):
            rng = random.Random(seed)
            task = rng.choice([task for task, *_ in TURNS[:2]] + FULL + [SMALL])
            code, told = code_for(task), row(task)
            key = rng.choice(sorted(code.blocks))
            instructions = list(code.blocks[key][0])
            rng.shuffle(instructions)
            other = with_block(key, instructions, code)
            self.check(task, told, other, plain_fault(task.work, other) is None)

    def test_other_slots_and_prices(self):
        code, told = small_code(), small_row()
        for task in (Task(SMALL.work, 3, SMALL.prices), Task(SMALL.work, 4, SMALL.prices), Task(SMALL.work, 2, Prices(2, 1)),
                     Task(SMALL.work, 2, Prices(3, 2)), Task(SMALL.work, 2, Prices(3, 1, {"a": 4})),
                     Task(work_of("given a; fixed k 5 3; results a; loop; a = a + k; tell a; end"), 2, SMALL.prices)):
            self.check(task, told, code, False)
            self.check(task, row(task), code, False)
        self.check(Task(SMALL.work, 2, Prices(3, 1, {"k": 9})), told, code, True)

    def test_parts_that_are_not_the_works(self):
        for others in (OTHER_NAMES, {"modulus": 999}, {"constants": {1: 6}}, {"inputs": ()}, {"results": ()}):
            self.check(SMALL, small_row(), small_code(**others), False)
        for work in (SMALL.work ** 2, SMALL.work.unrolled(1), SMALL.work.renamed({"a": "b"}), Work([], [])):
            self.check(Task(work, 2, SMALL.prices), small_row(), small_code(), False)

    def test_values_that_are_none(self):
        values = [*ODD_VALUES, 10 ** 60, small_parts(), tuple(small_parts().values()), SMALL, SMALL.work, [small_code()],
                  (small_row(), small_code()), [0, 6], "0 | 6 + 0"]
        for value in values:
            self.check(SMALL, value, small_code(), False)
            self.check(SMALL, small_row(), value, False)
            self.check(SMALL, value, value, False)
        self.check(SMALL, small_code(), small_row(), False)

    def test_nothing_is_changed(self):
        for task in [SMALL] + [task for task, *_ in TURNS[:2]] + FULL:
            code, told = code_for(task), row(task)
            before = copy.deepcopy(parts_of(code))
            self.check(task, told, code, True)
            self.assertIsNone(fault_of(task.work, code))
            check_same(self, parts_of(code), before)
            self.assertEqual(told, row(task))

    def test_prices_of_the_package_and_of_the_tests(self):
        for task in [task for task, *_ in TURNS] + FULL:
            code = code_for(task)
            self.assertEqual(plain_price(task, code.begins[0][0]), row(task)[0])

    def test_the_names_stand_in_the_file(self):
        self.assertEqual((fault_of.__module__, shows_code.__module__), ("leastcode.codelook",) * 2)
        self.assertTrue(issubclass(BadCode, LeastError))
        self.assertIs(shows_code(job(), row(job()), code_for(job())), True)


if __name__ == "__main__":
    unittest.main()

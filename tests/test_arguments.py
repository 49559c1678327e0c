"""The interface as the document lists it: names, places and kinds of arguments, and what happens to them."""

import copy
import importlib
import inspect
import itertools
import unittest

from leastcode.codelook import fault_of, shows_code
from leastcode.codes import Code
from leastcode.codetexts import read_code, show_code
from leastcode.coding import code_for
from leastcode.looker import shows_row
from leastcode.machine import Ran, run
from leastcode.needed import needed
from leastcode.outcomes import outcome
from leastcode.papers import paper
from leastcode.prices import Prices
from leastcode.proofs import proof, shows_proof
from leastcode.rows import Row
from leastcode.straight import least_price
from leastcode.tables import row, table, table_to_go, turn, turn_to_go
from leastcode.tasks import Task
from leastcode.works import Let, Tell, Work
from leastcode.worktexts import read_work, show_work
from leastcode.sums import Sum
from helping import check_same
from handmade import small_code, small_parts, small_row, small_task
from jobs import job

# The functions and classes of the document with their parameters, by their files.
INTERFACE = {
    "sums": {"Sum": "(*terms)"},
    "works": {"Tell": "(*names)", "Let": "(name, value)",
              "Work": "(ahead, loop, behind=(), *, given=(), fixed=None, results=(), modulus=4294967296)"},
    "worktexts": {"show_work": "(work)", "read_work": "(text)"},
    "outcomes": {"outcome": "(work, inputs, n)"},
    "prices": {"Prices": "(load, store, loads=None)"},
    "needed": {"needed": "(work, place, *, first=True, further=True)"},
    "tasks": {"Task": "(work, slots, prices=None)"},
    "straight": {"least_price": "(task, n)"},
    "rows": {"Row": "(numbers, period, step)"},
    "tables": {"table": "(task, r)", "table_to_go": "(task, j)", "turn": "(task, most=120)", "turn_to_go": "(task, most=120)",
               "row": "(task, most=120)"},
    "papers": {"paper": "(task, most=120)"},
    "looker": {"shows_row": "(task, row, paper)"},
    "codes": {"Code": "(registers, names, modulus, constants, inputs, results, first, period, begins, blocks, holdings, costs, rise)"},
    "machine": {"run": "(code, inputs, n)", "Ran": "(told, ends, load_counts, store_counts, set_counts)"},
    "coding": {"code_for": "(task, most=120)"},
    "codelook": {"fault_of": "(work, code)", "shows_code": "(task, row, code)"},
    "codetexts": {"show_code": "(code)", "read_code": "(text)"},
    "proofs": {"proof": "(task, most=120)", "shows_proof": "(task, value)"},
    "desk": {"Desk": "()"},
}
METHODS = {
    "sums": {"Sum": {"total": "(self, values, modulus)", "read": "(text)", "__eq__": None, "__str__": None}},
    "works": {"Tell": {"__eq__": None, "__str__": None}, "Let": {"__eq__": None, "__str__": None},
              "Work": {"straight": "(self, n)", "unrolled": "(self, j)", "renamed": "(self, names)", "read": "(text)", "__pow__": None,
                       "__eq__": None, "__str__": None}},
    "prices": {"Prices": {"load_of": "(self, name)", "__eq__": None}},
    "tasks": {"Task": {"__eq__": None}},
    "rows": {"Row": {"__getitem__": None, "__eq__": None, "__str__": None}},
    "codes": {"Code": {"stage": "(self, j)", "__eq__": None}},
    "machine": {"Ran": {"__eq__": None}},
    "desk": {"Desk": {"say": "(self, line)", "run": "(self, *lines)"}},
}
ERRORS = {
    "BadName": ["value"], "BadNumber": ["value"], "BadPrice": ["value"], "BadPlace": ["value"], "BadSlots": ["value"], "Twice": ["name"],
    "TooMany": ["most"], "Unmade": ["place", "name"], "MadeAgain": ["place", "name"], "NoRoom": ["place"], "BadSum": ["at"],
    "BadWork": ["value"], "BadInput": ["name"], "BadCode": ["part"], "BadText": ["line", "word"], "BadLine": ["word"],
}


def calls():
    """Calls of the functions and classes, each with all arguments by names."""
    task, code, leaf = small_task(), small_code(), paper(small_task())
    work, line = task.work, Let("a", Sum((1, ("a",))))
    return [
        (Let, {"name": "a", "value": Sum((1, ("b",)))}),
        (Work, {"ahead": [line], "loop": (line,), "behind": [Tell("a")], "given": ["a"], "fixed": {"k": (5, 1)}, "results": ["k", "a"],
                "modulus": 97}),
        (outcome, {"work": work, "inputs": {"a": 3}, "n": 4}), (show_work, {"work": work}), (read_work, {"text": show_work(work)}),
        (Prices, {"load": 1, "store": 2, "loads": {"a": 3}}),
        (needed, {"work": work, "place": ("loop", 1), "first": False, "further": False}),
        (Task, {"work": work, "slots": 3, "prices": Prices(2, 2)}), (least_price, {"task": task, "n": 5}),
        (Row, {"numbers": [1, 2, 4], "period": 2, "step": 3}), (table, {"task": task, "r": 3}), (table_to_go, {"task": task, "j": 3}),
        (turn, {"task": task, "most": 5}), (turn_to_go, {"task": task, "most": 5}), (row, {"task": task, "most": 5}),
        (paper, {"task": task, "most": 5}), (shows_row, {"task": task, "row": row(task), "paper": leaf}),
        (run, {"code": code, "inputs": {"a": 7}, "n": 3}),
        (Ran, {"told": [1], "ends": {"a": 2}, "load_counts": 3, "store_counts": None, "set_counts": (4,)}),
        (code_for, {"task": task, "most": 5}), (fault_of, {"work": work, "code": code}),
        (shows_code, {"task": task, "row": small_row(), "code": code}), (show_code, {"code": code}), (read_code, {"text": show_code(code)}),
        (proof, {"task": task, "most": 5}), (shows_proof, {"task": task, "value": proof(task)}),
    ]


class Interface(unittest.TestCase):
    def test_functions_and_classes(self):
        for file, told in INTERFACE.items():
            module = importlib.import_module("leastcode." + file)
            for name, parameters in told.items():
                found = getattr(module, name)
                self.assertEqual(found.__module__, "leastcode." + file)
                self.assertEqual(str(inspect.signature(found)), parameters, name)

    def test_methods_stand_in_their_classes(self):
        for file, told in METHODS.items():
            module = importlib.import_module("leastcode." + file)
            for name, methods in told.items():
                body = vars(getattr(module, name))
                for method, parameters in methods.items():
                    self.assertIn(method, body)
                    if parameters is not None and parameters.startswith("(self"):
                        self.assertEqual(str(inspect.signature(body[method])), parameters)
                    elif parameters is not None:
                        self.assertEqual(str(inspect.signature(getattr(getattr(module, name), method))), parameters)

    def test_errors(self):
        module = importlib.import_module("leastcode.errors")
        for name, parameters in ERRORS.items():
            error = getattr(module, name)
            self.assertEqual(error.__bases__, (module.LeastError,))
            self.assertEqual(list(inspect.signature(error).parameters), parameters)
            values = [object() for _ in parameters]
            for made in (error(*values), error(**dict(zip(parameters, values)))):
                for parameter, value in zip(parameters, values):
                    self.assertIs(getattr(made, parameter), value)
        self.assertEqual(module.LeastError.__bases__, (ValueError,))

    def test_each_module_needs_only_those_ahead_of_it(self):
        order = list(INTERFACE)
        for at, file in enumerate(order):
            module = importlib.import_module("leastcode." + file)
            for value in vars(module).values():
                home = getattr(value, "__module__", None) or ""
                name = home.removeprefix("leastcode.")
                if home.startswith("leastcode.") and name in order:
                    self.assertLessEqual(order.index(name), at, (file, name))


class ByName(unittest.TestCase):
    def test_in_any_order(self):
        for call, named in calls():
            wanted = call(**named)
            only_named = {"given", "fixed", "results", "modulus", "first", "further"} if call in (Work, needed) else set()
            by_place = [value for name, value in named.items() if name not in only_named]
            rest = {name: value for name, value in named.items() if name in only_named}
            self.assertEqual(call(*by_place, **rest), wanted)
            for order in itertools.islice(itertools.permutations(named), 0, 120, 7):
                self.assertEqual(call(**{name: named[name] for name in order}), wanted)

    def test_codes(self):
        parts = small_parts()
        self.assertEqual(Code(*parts.values()), Code(**dict(reversed(list(parts.items())))))

    def test_methods(self):
        work = job().work
        self.assertEqual(work.straight(n=2), work.straight(2))
        self.assertEqual(work.unrolled(j=2), work.unrolled(2))
        self.assertEqual(work.renamed(names={"a": "x"}), work.renamed({"a": "x"}))
        self.assertEqual(Sum.read(text="a + 1").total(modulus=5, values={"a": 4}), 0)
        self.assertEqual(Work.read(text=str(work)), work)
        self.assertEqual(Prices(1, 2).load_of(name="a"), 1)
        self.assertEqual(small_code().stage(j=7), 2)


class Kept(unittest.TestCase):
    def test_calls_change_nothing_and_say_the_same_again(self):
        for call, named in calls():
            before = {name: copy.deepcopy(value) for name, value in named.items()}
            first = call(**named)
            for name, value in named.items():
                self.assertEqual(value, before[name], (call, name))
            self.assertEqual(call(**before), first)

    def test_what_is_handed_back_belongs_to_the_caller(self):
        for call, named in calls():
            first = call(**named)
            kept = copy.deepcopy(first)
            if isinstance(first, dict):
                first.clear()
            elif isinstance(first, tuple):
                for part in first:
                    if isinstance(part, (dict, list)):
                        part.clear()
            self.assertEqual(call(**named), kept)

    def test_lists_and_dicts_that_are_changed_behind_a_call(self):
        ahead, loop, behind = [Tell("a")], [Tell("a")], [Tell("a")]
        given, results, fixed = ["a"], ["a"], {"k": (1, 1)}
        work = Work(ahead, loop, behind, given=given, results=results, fixed=fixed)
        text = str(work)
        for value in (ahead, loop, behind, given, results, fixed):
            value.clear()
        self.assertEqual(str(work), text)
        numbers, loads, names = [1, 2], {"a": 5}, ["a", "b"]
        told, prices, value = Row(numbers, 1, 1), Prices(1, 1, loads), Sum([2, names])
        numbers.append(9), loads.clear(), names.clear()
        self.assertEqual((told, prices, value), (Row([1, 2], 1, 1), Prices(1, 1, {"a": 5}), Sum((2, ("a", "b")))))
        work.fixed.clear(), prices.loads.clear()
        self.assertEqual((work.fixed, prices.loads), ({"k": (1, 1)}, {"a": 5}))
        code = small_code()
        code.constants.clear(), code.blocks.clear(), code.costs.clear()
        check_same(self, (code.constants, code.blocks, code.costs), tuple(small_parts()[name] for name in ("constants", "blocks", "costs")))


if __name__ == "__main__":
    unittest.main()

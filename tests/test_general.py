"""The general rules, for every function of the interface."""

import copy
import importlib
import inspect
import unittest

from tests.calls import CALLS, INTERFACE, LISTS
from tests.things import PLAIN, holds_list, listed, spoiled


def outcome(function, *row, **named):
    """What comes of a call: what is returned, or the error's class and what it keeps."""
    try:
        return ("returned", function(*row, **named))
    except (LookupError, ValueError) as error:
        if type(error).__module__ != "reportalike.errors":
            raise
        return ("raised", type(error), vars(error))


def each_call():
    for module, calls in CALLS.items():
        for name, arguments in calls:
            yield getattr(importlib.import_module("reportalike." + module), name), arguments


def all_listed(arguments):
    """The same arguments with lists for tuples, but for a thing, in which a list is no tuple."""
    return {key: value if key == "thing" else listed(value) for key, value in arguments.items()}


class Interface(unittest.TestCase):
    def test_each_function_is_defined_in_its_file(self):
        for module, names in INTERFACE.items():
            for name in names.split():
                function = getattr(importlib.import_module("reportalike." + module), name)
                self.assertTrue(inspect.isfunction(function))
                self.assertEqual(function.__module__, "reportalike." + module)

    def test_each_function_is_called_here(self):
        for module, names in INTERFACE.items():
            self.assertEqual(sorted(set(names.split())), sorted({name for name, _ in CALLS[module]}))

    def test_names_of_arguments(self):
        for function, arguments in each_call():
            self.assertEqual(list(inspect.signature(function).parameters), list(arguments), function)


class Rules(unittest.TestCase):
    def test_by_position_by_name_and_with_lists(self):
        for function, arguments in each_call():
            with self.subTest(function=function.__name__):
                first = outcome(function, *arguments.values())
                self.assertEqual(repr(outcome(function, **arguments)), repr(first))
                self.assertEqual(repr(outcome(function, *all_listed(arguments).values())), repr(first))
                self.assertEqual(repr(outcome(function, **all_listed(arguments))), repr(first))
                self.assertEqual(repr(outcome(function, *arguments.values())), repr(first))

    def test_a_list_is_no_tuple_in_a_thing(self):
        for function, arguments in each_call():
            if "thing" in arguments:
                self.assertIs(function(**arguments), True)
                if isinstance(arguments["thing"], tuple):
                    self.assertIs(function(**{**arguments, "thing": listed(arguments["thing"])}), False)

    def test_any_thing_can_be_handed_in(self):
        for function, arguments in each_call():
            if "thing" in arguments:
                for thing in spoiled(arguments["thing"]):
                    self.assertIs(function(**{**arguments, "thing": thing}), False, (function, thing))
                for thing in PLAIN:
                    self.assertIn(repr(function(**{**arguments, "thing": thing})), ("True", "False"), (function, thing))

    def test_arguments_stay_as_they_were(self):
        for function, arguments in each_call():
            with self.subTest(function=function.__name__):
                lists = listed(list(arguments.values()))
                before = copy.deepcopy(lists)
                outcome(function, *lists)
                self.assertEqual(lists, before)

    def test_returned_lists_are_new(self):
        for function, arguments in each_call():
            first = outcome(function, **arguments)
            if function.__name__ in LISTS and first[0] == "returned":
                before = repr(first)
                self.assertIs(type(first[1]), list)
                first[1].append("more")
                first[1].reverse()
                self.assertEqual(repr(outcome(function, **arguments)), before)

    def test_what_is_returned_and_kept_is_made_of_tuples(self):
        for function, arguments in each_call():
            with self.subTest(function=function.__name__):
                kind, *told = outcome(function, **all_listed(arguments))
                if kind == "raised":
                    self.assertFalse(any(holds_list(value) for value in told[1].values()))
                elif function.__name__ in LISTS:
                    self.assertFalse(any(holds_list(part) for part in told[0]))
                else:
                    self.assertFalse(holds_list(told[0]))

    def test_returned_values_may_be_passed_in_again(self):
        from reportalike import free, orders, plans, runs, steps, worlds
        from tests.calls import COUNTS, PLAN, RUNS, SMALL, TWO
        run = runs.new_run(steps.with_step(PLAN[:2], PLAN[2]), (), COUNTS)
        self.assertIs(runs.is_run(run), True)
        self.assertIs(runs.is_run(runs.cleaned(listed(run))), True)
        self.assertIs(plans.is_unsound(listed(TWO), plans.unsound(listed(TWO))), True)
        self.assertIs(worlds.is_world(worlds.cut_world(free.free_world(listed(RUNS), []), listed(RUNS))), True)
        paper = orders.other_paper(listed(SMALL), [], 0, [])
        self.assertIs(orders.is_other_paper(SMALL, (), 0, (), paper), True)
        self.assertIs(orders.is_waits(SMALL[0], orders.loosest(listed(SMALL[0]), [])), True)


class Beyond(unittest.TestCase):
    """Things beyond the bounds of arguments, and great numbers."""

    def test_great_numbers(self):
        from reportalike import worlds
        from tests.calls import SMALL
        great = 10 ** 40
        world = ((("m", -great),), (("f", (-great,), great), ("f", (great,), -great)), 0)
        self.assertIs(worlds.is_world(world), True)
        self.assertEqual(worlds.held_in(world, SMALL[0]), (("a", -great), ("x", great), ("y", -great)))

    def test_many_runs_and_seen_pairs(self):
        from reportalike import runs
        from tests.calls import RUNS
        many = RUNS * 20
        self.assertIs(runs.is_runs(many), True)
        row = runs.spots(many)
        pairs = tuple((row[0], other) for other in row[1:])
        self.assertIs(runs.is_seen(many, pairs), True)
        self.assertIs(runs.is_seen(many, pairs[::-1]), False)

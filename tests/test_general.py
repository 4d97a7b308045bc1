"""The general rules [2] and the interface [29]: errors, files, arguments, lists for tuples."""

import copy
import importlib
import inspect
import unittest

from crossnest import errors
from tests.calls import CALLS

LISTED = {
    "programs": "is_draft is_program fault fruitful reached is_clean trimmed names_of pairs_of"
                " makers readers calls rings",
    "trees": "is_tree nodes depth paths at_path procedure_of put_at trees_of least_tree least_by"
             " tree_having pumped",
    "runs": "events step_of gone_to value_of reads_of uses_of origin_of makes_of row_for moments"
            " left_behind open_calls",
    "alive": "passing_of passings can_use alive_at going_on is_going_on last_moment both_alive"
             " ends_ahead most_alive_in",
    "entries": "is_pattern seats entries entry_tree matched",
    "choices": "entry_of is_closed",
    "openings": "least_moment",
    "profiles": "is_quick profiles_of profiles profile_tree quick_pairs",
    "patterns": "pattern_of shows shown_in takes least_run pairs_shown",
    "rounds": "spans spoilt can_be_cell can_be_round least_round round_clash is_round_clash",
    "stacks": "stack_rows missed_uses can_be_stack crossing is_crossing region_rows too_long"
              " can_be_region overstay is_overstay",
    "queues": "queue_rows missed_in_queue can_be_queue nesting is_nesting order_rows kept_up"
              " can_be_order outlasting is_outlasting",
    "lots": "share table_of fits greatest_lots fewest_lots is_parting none_share cheapest_lots",
    "alives": "counts most_alive alive_spot is_alive_spot grant is_grant homes_given is_homes"
              " most_left pump",
    "depths": "height height_spot is_height_spot power full_depth slope steep forked fork",
    "frames": "kept_until kept_at kept_run is_kept_run drop_at tails one_frame frame_clash"
              " is_frame_clash frame_cells",
    "inplace": "spots over_spots may_write_over over_clash is_over_clash best_overs homes_in_place"
               " spoilt_in_place",
    "orders": "is_order orders_of in_order in_orders exchanged best_orders fewest_by_orders"
              " joined_visits",
    "changes": "with_rule without_rule renamed split_name inlined new_names tree_inlined turned",
    "harms": "shadow shadows can_be_heard heard_tree hangs_on heard_events harmless_in asked_terms"
             " spoilt_terms",
    "layouts": "origins is_layout serves spoiling is_spoiling failing cheapest best_layout cost",
    "code": "may_hold bare frame_names code_of is_code run_code reads_due",
    "judge": "is_claim stands paper_against is_paper_against first_fallen",
    "texts": "word_text lot_word tree_word program_text layout_text word_read lot_read tree_read"
             " read_program read_layout",
    "desk": "is_request replies event_word path_word",
}
# The classes: their files, and what their constructors and their methods take.
CLASSES = {
    "Engine": ("engine", {
        "__init__": "program layout", "wants": "", "choose": "rule", "step": "", "go_on": "", "ended": "",
        "tree": "", "alive": "", "kept": "number", "misread": "", "outs": "", "twin": "", "__eq__": "other",
    }),
    "Board": ("board", {
        "__init__": "program", "choose": "rule", "keep": "home number lot", "leave": "position",
        "add": "procedure rule", "strike": "procedure number", "undo": "", "redo": "", "program": "",
        "parts": "", "front": "", "known": "", "events": "", "least": "", "alive": "", "failing": "",
        "seen": "", "twin": "", "__eq__": "other",
    }),
}
# The classes, what each is under, and what its constructor takes.
ERRORS = {
    "NoProcedure": (LookupError, ["number"]),
    "NoRule": (LookupError, ["number"]),
    "NoPath": (LookupError, ["path"]),
    "NoEvent": (LookupError, ["number"]),
    "NoName": (LookupError, ["name"]),
    "NothingDone": (LookupError, []),
    "BadLine": (ValueError, ["number"]),
    "CanNot": (ValueError, []),
    "TooMany": (ValueError, []),
    "Unfit": (ValueError, []),
}
LISTS = (
    "trees_of", "events", "moments", "passings", "stack_rows", "region_rows", "queue_rows",
    "order_rows", "counts", "orders_of", "run_code", "reads_due", "replies",
)


def as_lists(value, depth=100):
    """The value with lists in the place of its tuples, down to this depth."""
    if isinstance(value, tuple) and depth > 0:
        return [as_lists(part, depth - 1) for part in value]
    return value


def below_lists(value, depth):
    """The value with lists in the place of the tuples from this depth on."""
    if isinstance(value, tuple):
        parts = [below_lists(part, depth - 1) for part in value]
        return parts if depth <= 0 else tuple(parts)
    return value


def changed(arguments, change):
    """The arguments, all but thing changed."""
    return {name: value if name == "thing" else change(value) for name, value in arguments.items()}


class Interface(unittest.TestCase):
    def test_errors(self):
        for name, (base, takes) in ERRORS.items():
            kind = getattr(errors, name)
            self.assertEqual(kind.__bases__, (base,))
            self.assertEqual(kind.__module__, "crossnest.errors")
            given = {word: ("told", word) for word in takes}
            for made in (kind(*given.values()), kind(**given)):
                self.assertEqual(vars(made), given)
                self.assertIsInstance(made, base)

    def test_each_function_stands_in_its_file(self):
        for module, names in LISTED.items():
            held = importlib.import_module("crossnest." + module)
            for name in names.split():
                self.assertTrue(inspect.isfunction(getattr(held, name)), name)
                self.assertEqual(getattr(held, name).__module__, "crossnest." + module)

    def test_each_class_stands_in_its_file_with_its_methods(self):
        for name, (module, methods) in CLASSES.items():
            kind = getattr(importlib.import_module("crossnest." + module), name)
            self.assertTrue(inspect.isclass(kind))
            self.assertEqual(kind.__module__, "crossnest." + module)
            for method, takes in methods.items():
                told = vars(kind)[method]
                self.assertTrue(inspect.isfunction(told), method)
                self.assertEqual(list(inspect.signature(told).parameters), ["self"] + takes.split())

    def test_each_function_has_a_call_with_its_arguments_in_order(self):
        told = {function.__module__ + "." + function.__name__ for function, _ in CALLS}
        listed = {
            f"crossnest.{module}.{name}" for module, names in LISTED.items() for name in names.split()
        }
        self.assertEqual(told, listed)
        for function, arguments in CALLS:
            self.assertEqual(list(inspect.signature(function).parameters), list(arguments))


class General(unittest.TestCase):
    def test_by_position_and_by_name(self):
        for function, arguments in CALLS:
            with self.subTest(function.__name__):
                self.assertEqual(function(**arguments), function(*arguments.values()))

    def test_the_same_call_again_and_new_lists(self):
        for function, arguments in CALLS:
            with self.subTest(function.__name__):
                found, again = function(**arguments), function(**arguments)
                self.assertEqual(found, again)
                self.assertEqual(isinstance(found, list), function.__name__ in LISTS)
                if isinstance(found, list):
                    self.assertIsNot(found, again)
                    found.append("more")
                    self.assertEqual(function(**arguments), again)

    def test_lists_for_tuples_at_any_depth(self):
        for function, arguments in CALLS:
            with self.subTest(function.__name__):
                found = function(**arguments)
                self.assertEqual(function(**changed(arguments, as_lists)), found)
                for depth in range(1, 6):
                    self.assertEqual(
                        function(**changed(arguments, lambda value: as_lists(value, depth))), found)
                    self.assertEqual(
                        function(**changed(arguments, lambda value: below_lists(value, depth))), found)

    def test_nothing_is_changed(self):
        for function, arguments in CALLS:
            with self.subTest(function.__name__):
                given = changed(arguments, as_lists)
                before = copy.deepcopy(given)
                function(**given)
                self.assertEqual(given, before)

    def test_results_hold_no_lists(self):
        for function, arguments in CALLS:
            with self.subTest(function.__name__):
                found = function(**changed(arguments, as_lists))
                parts = found if isinstance(found, list) else [found]
                self.assertNotIn("[", repr(parts)[1:])

    def test_lists_are_no_tuples_in_a_thing(self):
        for function, arguments in CALLS:
            if "thing" in arguments:
                with self.subTest(function.__name__):
                    self.assertIs(function(**arguments), True)
                    told = dict(arguments, thing=as_lists(arguments["thing"]))
                    self.assertIs(function(**told), told["thing"] == arguments["thing"])
                    for depth in range(1, 6):
                        part = below_lists(arguments["thing"], depth)
                        if part != arguments["thing"]:
                            self.assertIs(function(**dict(arguments, thing=part)), False)

    def test_strange_things(self):
        deep_tuple, deep_list = (), []
        for _ in range(98):
            deep_tuple, deep_list = (deep_tuple,), [deep_list]
        strange = [
            None, True, False, 0, 1, -1, 10 ** 30, "", "a", "make", "x" * 10 ** 5, (), [], ((),),
            ((), ()), ((), (), ()), (0, ()), (None, None), ("a", "b"), (True, ()), deep_tuple,
            deep_list, tuple(range(10 ** 4)), (((),),) * 1000, ("make", 0), (("make", True),),
        ]
        for function, arguments in CALLS:
            if "thing" in arguments:
                for thing in strange:
                    with self.subTest(function.__name__, thing=repr(thing)[:40]):
                        self.assertIs(function(**dict(arguments, thing=thing)), False)

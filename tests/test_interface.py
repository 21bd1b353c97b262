"""The interface: each name stands in its file, with its arguments; and the package has no others' names."""

import importlib
import inspect
import unittest

FUNCTIONS = {
    "kinds": {"is_number": "(thing)", "is_name": "(thing)", "is_way": "(thing)"},
    "trees": {"is_tree": "(thing)", "kind_of": "(tree, node)", "entries_of": "(tree, node)"},
    "paths": {"way_through": "(tree, way, *, top=0)", "ways_to": "(tree, node)", "above": "(tree, node)"},
    "deeds": {"is_deed": "(thing)", "done": "(tree, deed)", "done_all": "(tree, deeds=())"},
    "renaming": {
        "renamed": "(tree, *, names=(), nodes=())",
        "renamed_deed": "(deed, *, names=())",
        "renamed_told": "(told, *, names=(), nodes=())",
    },
    "undoing": {"back_of": "(tree, deed)"},
    "deedtexts": {"shown_way": "(way)", "shown_deed": "(deed)", "shown_tree": "(tree)"},
    "deedreader": {
        "read_way": "(text, *, line=0)", "read_deed": "(text, *, line=0)", "read_tree": "(text, *, line=0)",
    },
    "tasks": {"in_order": "(tree, hands, line)", "trees_along": "(tree, hands, line, *, first=0)"},
    "spans": {"is_spans": "(hands, thing)", "is_ahead": "(spans, one, other)", "moments_by": "(spans, line)"},
    "serialchecker": {"lets_serial": "(tree, hands, spans, results, end, thing)"},
    "orders": {
        "serial_paper": "(tree, hands, spans, results, end, *, most=6)", "outcomes": "(tree, hands, spans, *, most=6)",
    },
    "barchecker": {"lets_bar": "(tree, hands, spans, results, end, thing)"},
    "exchanges": {"may_exchange": "(tree, one, other)", "lets_exchanges": "(tree, hands, line, thing)"},
    "waits": {
        "is_waits": "(thing)", "waiting_pairs": "(rows)", "ring_or_ranks": "(rows)", "climbs": "(rows, *, order=())",
    },
    "waitchecker": {"lets_ring": "(rows, thing)", "lets_ranks": "(rows, thing)"},
    "disks": {"disk_of": "(tree)", "written": "(disk, writes)", "mended": "(disk)"},
    "diskwrites": {"writes_of": "(tree, deed)"},
    "cuts": {"cuts": "(tree, deeds)"},
    "cutchecker": {"lets_cuts": "(tree, deeds, thing)"},
    "histories": {
        "walk_in": "(history, way, *, moments)", "is_still": "(history, *, first=0, last=None)",
        "had_by": "(history, way, *, moments)",
    },
    "historychecker": {"lets_moment": "(history, way, thing, *, moments)"},
    "states": {"begun": "(tree, hands)", "is_quiet": "(state)", "tree_of": "(state)"},
    "steps": {"step": "(state, hand)"},
    "runs": {
        "run": "(state, schedule, *, most=400)", "until_quiet": "(state, *, by=())",
        "rounds": "(*, deeds, hands, names)",
    },
    "cutting": {"cut": "(state)"},
    "spansof": {"spans_of": "(tree, hands, log)", "results_of": "(tree, hands, log)"},
    "runmoments": {
        "moments_of": "(tree, hands, log)", "run_order": "(tree, hands, log)", "end_of": "(tree, hands, log)",
    },
    "momentchecker": {"lets_moments": "(tree, hands, log, thing)"},
    "eventkinds": {"is_event": "(thing)"},
    "eventtexts": {"shown_event": "(event)", "shown_log": "(log)", "shown_schedule": "(schedule)"},
    "eventreader": {"read_event": "(text, *, line=0)", "read_log": "(text)", "read_schedule": "(text)"},
}

CLASSES = {
    "errors": {
        "NoPaper": "(word, at)", "NoOrder": "(paper)", "NoHand": "(hand)", "NoStep": "(word)", "NoBack": "(times)",
        "NoText": "(line, word)", "NoLine": "(line)",
    },
    "hints": {"Hints": "(*, most=4)"},
    "cabinet": {"Cabinet": "(tree, *, hands=())"},
    "desk": {"Desk": "()"},
}

METHODS = {
    "hints": {
        "Hints": {
            "ask": "(self, state, way)", "hits": "(self)", "knows": "(self, thing)", "forget": "(self, thing)",
            "__len__": "(self)",
        },
    },
    "cabinet": {
        "Cabinet": {
            "step": "(self, hand)", "run": "(self, schedule, *, most=400)", "until_quiet": "(self, *, by=())",
            "back": "(self, times=1)", "then": "(self, k)", "cut_at": "(self, k)", "tree_first": "(self)",
            "hands_first": "(self)", "state_now": "(self)", "log_now": "(self)", "look": "(self, way)",
            "__len__": "(self)", "__str__": "(self)", "__eq__": "(self, other)",
        },
    },
    "desk": {"Desk": {"say": "(self, row)", "diary": "(self)", "is_open": "(self)"}},
}

NUMBERS = {"orders": {"MOST": 6}, "runs": {"LIMIT": 400}, "hints": {"KEPT": 4}}


class Interface(unittest.TestCase):
    def test_functions(self):
        for file, functions in FUNCTIONS.items():
            module = importlib.import_module("drawerways." + file)
            for name, arguments in functions.items():
                function = getattr(module, name)
                self.assertTrue(inspect.isfunction(function), name)
                self.assertEqual(function.__module__, "drawerways." + file, name)
                self.assertEqual(str(inspect.signature(function)), arguments, name)

    def test_classes(self):
        for file, classes in CLASSES.items():
            module = importlib.import_module("drawerways." + file)
            for name, fields in classes.items():
                refusal = getattr(module, name)
                self.assertTrue(inspect.isclass(refusal), name)
                self.assertEqual(refusal.__module__, "drawerways." + file, name)
                self.assertEqual(str(inspect.signature(refusal)), fields, name)

    def test_methods(self):
        for file, classes in METHODS.items():
            module = importlib.import_module("drawerways." + file)
            for name, methods in classes.items():
                for method, arguments in methods.items():
                    # In the class itself, not only in a base class.
                    self.assertIn(method, vars(getattr(module, name)), (name, method))
                    self.assertEqual(str(inspect.signature(vars(getattr(module, name))[method])), arguments, method)

    def test_numbers(self):
        for file, numbers in NUMBERS.items():
            module = importlib.import_module("drawerways." + file)
            for name, number in numbers.items():
                self.assertEqual(getattr(module, name), number)
                self.assertIs(type(getattr(module, name)), int)


if __name__ == "__main__":
    unittest.main()

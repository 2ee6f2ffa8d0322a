import importlib
import inspect
import unittest

FUNCTIONS = {
    "trees": {"is_tree": 1, "path_of": 2, "find": 2, "below": 2, "walked": 1},
    "deeds": {"done": 2, "all_done": 2},
    "changes": {"change_between": 2, "turned_back": 1, "joined": 2, "counted": 1, "applied": 2},
    "steps": {"in_steps": 2},
    "watching": {},
    "ignoring": {"seen": 2, "change_seen": 3, "is_quiet": 3},
    "guessing": {"known_again": 2, "renumbered": 2},
    "texts": {"written": 1, "read": 1},
    "sums": {"total": 2, "shape": 2, "deepest": 1, "alike_folders": 1},
    "merging": {"clashing": 3, "merged": 3, "kept_alike": 2},
    "ledgers": {"ledger_text": 1, "read_ledger": 1},
    "searching": {
        "named": 2, "stamped": 3, "by_stamps": 1, "depth_of": 2, "children": 2, "meeting": 3, "first_of_kind": 1,
    },
    "grafting": {"cut_out": 2, "without": 2, "grafted": 3, "numbered_by_paths": 2},
}
# A class with how many arguments it is made, and its methods.
CLASSES = {
    ("watching", "Watch"): (2, {"deed": 1, "now": 0, "mark": 0, "since": 1, "reader": 0, "read": 1}),
    ("ledgers", "Ledger"): (1, {
        "do": 1, "tag": 1, "tagged": 1, "from_tag": 1, "tags": 0, "now": 0, "base": 0, "steps": 0, "back": 0,
        "forth": 0, "sizes": 0, "twin": 0,
    }),
}


def takes(thing, count):
    try:
        inspect.signature(thing).bind(*range(count))
    except TypeError:
        return False
    return True


class Interface(unittest.TestCase):
    def test_functions(self):
        for file, functions in FUNCTIONS.items():
            module = importlib.import_module("treewatch." + file)
            for name, count in functions.items():
                with self.subTest(file=file, name=name):
                    self.assertTrue(takes(getattr(module, name), count))

    def test_classes(self):
        for (file, name), (count, methods) in CLASSES.items():
            made = getattr(importlib.import_module("treewatch." + file), name)
            self.assertTrue(takes(made, count))
            for method, given in methods.items():
                with self.subTest(name=name, method=method):
                    self.assertTrue(takes(getattr(made, method), given + 1))

import unittest

from treewatch import errors

NAMES = [
    "NoNode", "Known", "NotFolder", "NotFile", "Inside", "Taken",
    "NoMatch", "NoMark", "NoReader", "NoText", "NoTag", "NoBack",
]


class Errors(unittest.TestCase):
    def test_tree_error_stands_right_under_value_error(self):
        self.assertEqual(errors.TreeError.__bases__, (ValueError,))

    def test_each_stands_right_under_tree_error(self):
        for name in NAMES:
            with self.subTest(name=name):
                self.assertEqual(getattr(errors, name).__bases__, (errors.TreeError,))

    def test_each_is_a_class_of_its_own(self):
        self.assertEqual(len({getattr(errors, name) for name in NAMES}), len(NAMES))
        for one in NAMES:
            for other in NAMES:
                if one != other:
                    with self.subTest(one=one, other=other):
                        self.assertFalse(issubclass(getattr(errors, one), getattr(errors, other)))

    def test_there_are_no_others(self):
        classes = [name for name, value in vars(errors).items() if isinstance(value, type)]
        self.assertEqual(sorted(classes), sorted(NAMES + ["TreeError"]))

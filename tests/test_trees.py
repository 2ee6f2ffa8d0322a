import unittest

from treewatch.errors import NoNode
from treewatch.trees import below, find, is_tree, path_of, walked

# a/       2
# a/b/     5
# a/b/c    1  (stamp 0)
# a/z      7  (stamp 999)
# ab       3  (stamp 12)
# b/       9, empty
TREE = (
    (1, 5, "c", 0),
    (2, 0, "a", None),
    (3, 0, "ab", 12),
    (5, 2, "b", None),
    (7, 2, "z", 999),
    (9, 0, "b", None),
)


def chain(length):
    return tuple((number, number - 1, "a", None) for number in range(1, length + 1))


def nested(thing, depth, wrap):
    for _ in range(depth):
        thing = wrap([thing])
    return thing


class IsTree(unittest.TestCase):
    def yes(self, thing):
        with self.subTest(thing=thing):
            self.assertIs(is_tree(thing), True)

    def no(self, thing):
        with self.subTest(thing=thing):
            self.assertIs(is_tree(thing), False)

    def test_right_trees(self):
        self.yes(())
        self.yes(TREE)
        self.yes(((1, 0, "a", None),))
        self.yes(((1, 0, "abcde", 0),))
        self.yes(((1, 0, "vwxyz", 999),))
        self.yes(((10 ** 30, 0, "a", None),))
        self.yes(((1, 0, "a", 1), (2, 0, "b", 1)))

    def test_parents_may_come_behind_their_nodes(self):
        self.yes(((1, 2, "a", 1), (2, 3, "a", None), (3, 0, "a", None)))

    def test_one_name_under_unlike_parents(self):
        self.yes(((1, 0, "a", None), (2, 1, "a", None), (3, 2, "a", 5), (4, 0, "b", None), (5, 4, "a", 5)))

    def test_folders_many_deep(self):
        self.yes(chain(3000))

    def test_wrong_numbers(self):
        for number in (True, False, 0, -1, None, "1", "", (1,), [1], (), []):
            self.no(((number, 0, "a", None),))

    def test_wrong_numbers_that_rise(self):
        self.no(((True, 0, "a", None), (2, 0, "b", None)))
        self.no(((0, 0, "a", None), (2, 0, "b", None)))
        self.no(((-1, 0, "a", None), (2, 0, "b", None)))

    def test_wrong_parents(self):
        for parent in (False, -1, None, "0", "", (0,), [0], (), []):
            self.no(((1, parent, "a", None),))
        self.no(((1, 0, "a", None), (2, True, "b", None)))

    def test_wrong_names(self):
        for name in ("", "abcdef", "A", "aB", "a1", "1", "a b", " ", "a/", "a-", "a\n", "_", "`", "{", "\u00e9",
                     "\u00df", "\u00aa", "\u0430", None, 1, 0, True, ("a",), ["a"], (), []):
            self.no(((1, 0, name, None),))
            self.no(((1, 0, name, 5),))

    def test_wrong_stamps(self):
        for stamp in (-1, 1000, True, False, "", "1", (), [], (1,), [None]):
            self.no(((1, 0, "a", stamp),))

    def test_wrong_nodes(self):
        for node in ((), (1,), (1, 0, "a"), (1, 0, "a", None, None), (1, 0, "a", 5, 5), [1, 0, "a", None],
                     "abcd", "", None, 1, True, ((1, 0, "a", None),)):
            self.no((node,))
            self.no(((1, 0, "a", None), node))

    def test_nodes_in_a_list(self):
        self.no([])
        self.no([(1, 0, "a", None)])
        self.no(list(TREE))
        self.no(tuple(list(node) for node in TREE))

    def test_nodes_that_do_not_rise(self):
        self.no(((2, 0, "a", None), (1, 0, "b", None)))
        self.no(((1, 0, "a", None), (3, 0, "b", None), (2, 0, "c", None)))
        self.no(tuple(reversed(TREE)))

    def test_number_twice(self):
        self.no(((1, 0, "a", None), (1, 0, "b", None)))
        self.no(((1, 0, "a", None), (1, 0, "a", None)))
        self.no(((1, 0, "a", None), (2, 0, "b", None), (2, 1, "b", 5)))

    def test_name_twice_under_one_parent(self):
        self.no(((1, 0, "a", None), (2, 0, "a", None)))
        self.no(((1, 0, "a", None), (2, 0, "a", 5)))
        self.no(((1, 0, "a", None), (2, 1, "b", 5), (3, 0, "c", 5), (4, 1, "b", 5)))

    def test_parent_that_is_no_node(self):
        self.no(((1, 2, "a", None),))
        self.no(((1, 0, "a", None), (2, 3, "b", 5)))

    def test_parent_that_is_a_file(self):
        self.no(((1, 0, "a", 5), (2, 1, "b", None)))
        self.no(((1, 0, "a", 0), (2, 1, "b", 5)))
        self.no(((1, 2, "a", 5), (2, 0, "b", 5)))

    def test_rings(self):
        self.no(((1, 1, "a", None),))
        self.no(((1, 2, "a", None), (2, 1, "a", None)))
        self.no(((1, 0, "a", None), (2, 4, "a", None), (3, 2, "a", None), (4, 3, "a", None), (5, 4, "b", 5)))

    def test_no_trees_at_all(self):
        for thing in (None, True, False, 0, 1, -1, "", "a", "abcd", (1, 0, "a", None), [[]], ((),), ([],), (None,),
                      (True,), ("",), (0,)):
            self.no(thing)

    def test_deep_things(self):
        for wrap in (tuple, list):
            for thing in (None, 1, "a", (), [], (1, 0, "a", None), TREE):
                self.no(nested(thing, 12, wrap))
                self.no(((1, 0, "a", nested(thing, 12, wrap)),))
                self.no(((1, nested(thing, 12, wrap), "a", None),))
                self.no(((nested(thing, 12, wrap), 0, "a", None),))
                self.no(((1, 0, nested(thing, 12, wrap), None),))

    def test_thing_is_not_changed(self):
        thing = [[1, 0, "a", None], [2, [3], "b"]]
        is_tree(thing)
        self.assertEqual(thing, [[1, 0, "a", None], [2, [3], "b"]])


class PathOf(unittest.TestCase):
    def test_paths(self):
        expected = {1: ("a", "b", "c"), 2: ("a",), 3: ("ab",), 5: ("a", "b"), 7: ("a", "z"), 9: ("b",)}
        for number, path in expected.items():
            with self.subTest(number=number):
                self.assertEqual(path_of(TREE, number), path)
                self.assertIsInstance(path_of(TREE, number), tuple)

    def test_many_deep(self):
        self.assertEqual(path_of(chain(3000), 3000), ("a",) * 3000)

    def test_numbers_of_none(self):
        for number in (0, 4, 10, -1, 10 ** 20):
            with self.subTest(number=number), self.assertRaises(NoNode):
                path_of(TREE, number)
        with self.assertRaises(NoNode):
            path_of((), 1)


class Find(unittest.TestCase):
    def test_found(self):
        expected = {("a", "b", "c"): 1, ("a",): 2, ("ab",): 3, ("a", "b"): 5, ("a", "z"): 7, ("b",): 9}
        for path, number in expected.items():
            with self.subTest(path=path):
                self.assertEqual(find(TREE, path), number)

    def test_the_top(self):
        self.assertEqual(find(TREE, ()), 0)
        self.assertEqual(find((), ()), 0)

    def test_paths_of_none(self):
        for path in (("c",), ("z",), ("a", "c"), ("b", "c"), ("a", "b", "c", "d"), ("ab", "a"), ("a", "a"),
                     ("c", "a"), ("x", "a", "b"), ("x", "y", "z"), ("",), ("a", ""), ("abcdef",), ("A",)):
            with self.subTest(path=path):
                self.assertIsNone(find(TREE, path))
        self.assertIsNone(find((), ("a",)))

    def test_many_deep(self):
        self.assertEqual(find(chain(3000), ("a",) * 3000), 3000)
        self.assertIsNone(find(chain(3000), ("a",) * 3001))


class Below(unittest.TestCase):
    def test_folders(self):
        self.assertEqual(below(TREE, 2), [1, 5, 7])
        self.assertEqual(below(TREE, 5), [1])
        self.assertEqual(below(TREE, 9), [])

    def test_files(self):
        for number in (1, 3, 7):
            with self.subTest(number=number):
                self.assertEqual(below(TREE, number), [])

    def test_the_top(self):
        self.assertEqual(below(TREE, 0), [1, 2, 3, 5, 7, 9])
        self.assertEqual(below((), 0), [])

    def test_many_deep(self):
        self.assertEqual(below(chain(3000), 1), list(range(2, 3001)))

    def test_rising_whatever_the_way_down(self):
        tree = ((1, 7, "a", 5), (2, 8, "a", 5), (5, 8, "b", None), (6, 5, "c", 5), (7, 8, "d", None), (8, 0, "a", None))
        self.assertEqual(below(tree, 8), [1, 2, 5, 6, 7])

    def test_numbers_of_none(self):
        for number in (4, 10, -1):
            with self.subTest(number=number), self.assertRaises(NoNode):
                below(TREE, number)
        with self.assertRaises(NoNode):
            below((), 1)

    def test_lists_are_new_each_time(self):
        for number, expected in ((0, [1, 2, 3, 5, 7, 9]), (2, [1, 5, 7]), (9, [])):
            told = below(TREE, number)
            told.append(77)
            told[0] = 66
            self.assertEqual(below(TREE, number), expected)


class Walked(unittest.TestCase):
    expected = [(("a",), 2), (("a", "b"), 5), (("a", "b", "c"), 1), (("a", "z"), 7), (("ab",), 3), (("b",), 9)]

    def test_rising_by_paths(self):
        self.assertEqual(walked(TREE), self.expected)
        self.assertIsInstance(walked(TREE), list)

    def test_empty(self):
        self.assertEqual(walked(()), [])

    def test_list_is_new_each_time(self):
        told = walked(TREE)
        told.clear()
        self.assertEqual(walked(TREE), self.expected)

    def test_goes_with_path_of_and_find(self):
        for path, number in walked(TREE):
            with self.subTest(path=path):
                self.assertEqual(path_of(TREE, number), path)
                self.assertEqual(find(TREE, path), number)

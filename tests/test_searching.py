import copy
import random
import unittest

from samples import chance_tree
from treewatch.errors import NoNode, NotFolder
from treewatch.searching import by_stamps, children, depth_of, first_of_kind, meeting, named, stamped
from treewatch.trees import find, path_of, walked

# a/       2
# a/b/     5
# a/b/d    1  (stamp 7)
# a/b/e/   6, empty
# a/z      7  (stamp 0)
# b        3  (stamp 999)
# e/       9
# e/b      8  (stamp 7)
TREE = (
    (1, 5, "d", 7),
    (2, 0, "a", None),
    (3, 0, "b", 999),
    (5, 2, "b", None),
    (6, 5, "e", None),
    (7, 2, "z", 0),
    (8, 9, "b", 7),
    (9, 0, "e", None),
)


def trees_by_chance():
    chance = random.Random(13)
    for _ in range(100):
        yield chance_tree(chance, tuple(range(1, 20)), ("a", "b", "ab"))


class Named(unittest.TestCase):
    def test_of_none(self):
        self.assertEqual(named((), "a"), [])
        self.assertEqual(named(TREE, "q"), [])
        self.assertEqual(named(TREE, "ab"), [])
        self.assertEqual(named(((1, 0, "ab", 5),), "a"), [])

    def test_of_one(self):
        self.assertEqual(named(TREE, "a"), [2])
        self.assertEqual(named(TREE, "z"), [7])

    def test_of_several_folders_and_files(self):
        self.assertEqual(named(TREE, "b"), [3, 5, 8])
        self.assertEqual(named(TREE, "e"), [6, 9])

    def test_what_is_told_is_new(self):
        told = named(TREE, "b")
        told.clear()
        self.assertEqual(named(TREE, "b"), [3, 5, 8])


class Stamped(unittest.TestCase):
    def test_without_nodes(self):
        self.assertEqual(stamped((), 0, 999), [])

    def test_the_same_low_and_high(self):
        self.assertEqual(stamped(TREE, 7, 7), [1, 8])
        self.assertEqual(stamped(TREE, 0, 0), [7])
        self.assertEqual(stamped(TREE, 999, 999), [3])
        self.assertEqual(stamped(TREE, 8, 8), [])

    def test_low_greater_than_high(self):
        self.assertEqual(stamped(TREE, 8, 7), [])
        self.assertEqual(stamped(TREE, 999, 0), [])

    def test_bounds(self):
        self.assertEqual(stamped(TREE, 0, 999), [1, 3, 7, 8])
        self.assertEqual(stamped(TREE, 0, 7), [1, 7, 8])
        self.assertEqual(stamped(TREE, 0, 6), [7])
        self.assertEqual(stamped(TREE, 1, 998), [1, 8])
        self.assertEqual(stamped(TREE, 7, 999), [1, 3, 8])
        self.assertEqual(stamped(TREE, 8, 999), [3])

    def test_beyond_and_below(self):
        self.assertEqual(stamped(TREE, -5, 2000), [1, 3, 7, 8])
        self.assertEqual(stamped(TREE, -5, -1), [])
        self.assertEqual(stamped(TREE, -1, 0), [7])
        self.assertEqual(stamped(TREE, 1000, 2000), [])

    def test_folders_never(self):
        self.assertEqual(stamped(((1, 0, "a", None),), -1, 1000), [])
        self.assertEqual(stamped(((1, 0, "a", None),), 0, 0), [])

    def test_what_is_told_is_new(self):
        told = stamped(TREE, 0, 7)
        told.clear()
        self.assertEqual(stamped(TREE, 0, 7), [1, 7, 8])


class ByStamps(unittest.TestCase):
    def test_without_files(self):
        self.assertEqual(by_stamps(()), [])
        self.assertEqual(by_stamps(((1, 0, "a", None),)), [])

    def test_several_of_one_stamp(self):
        self.assertEqual(by_stamps(TREE), [(0, [7]), (7, [1, 8]), (999, [3])])

    def test_stamps_rise_as_numbers(self):
        tree = ((1, 0, "a", 10), (2, 0, "b", 9), (3, 0, "c", 100), (4, 0, "d", 9))
        self.assertEqual(by_stamps(tree), [(9, [2, 4]), (10, [1]), (100, [3])])

    def test_what_is_told_is_new(self):
        told = by_stamps(TREE)
        self.assertIs(type(told), list)
        for part in told:
            self.assertEqual([type(part), type(part[1])], [tuple, list])
            part[1].append(4)
        told.clear()
        self.assertEqual(by_stamps(TREE), [(0, [7]), (7, [1, 8]), (999, [3])])

    def test_larger_trees(self):
        for tree in trees_by_chance():
            stamps = sorted({node[3] for node in tree if node[3] is not None})
            self.assertEqual(by_stamps(tree), [(stamp, stamped(tree, stamp, stamp)) for stamp in stamps])
            for stamp in stamps:
                self.assertEqual(stamped(tree, stamp, stamp), [node[0] for node in tree if node[3] == stamp])


class DepthOf(unittest.TestCase):
    def test_each(self):
        self.assertEqual([depth_of(TREE, number) for number in (2, 3, 9, 5, 7, 8, 1, 6)], [1, 1, 1, 2, 2, 2, 3, 3])

    def test_no_node(self):
        for number in (4, 10, -1):
            self.assertRaises(NoNode, depth_of, TREE, number)
            self.assertRaises(NoNode, depth_of, (), number)

    def test_deeper_than_a_recursion_may_go(self):
        chain = tuple((number, number - 1, "a", None) for number in range(1, 2001))
        self.assertEqual(depth_of(chain, 2000), 2000)


class Children(unittest.TestCase):
    def test_of_the_top(self):
        self.assertEqual(children((), 0), [])
        self.assertEqual(children(TREE, 0), [2, 3, 9])

    def test_of_a_folder_without_those_deep_below(self):
        self.assertEqual(children(TREE, 2), [5, 7])
        self.assertEqual(children(TREE, 5), [1, 6])
        self.assertEqual(children(TREE, 9), [8])

    def test_of_an_empty_folder(self):
        self.assertEqual(children(TREE, 6), [])

    def test_by_names_and_not_by_numbers(self):
        tree = ((1, 0, "c", 5), (2, 0, "ab", None), (3, 0, "b", 6), (4, 0, "a", 7), (5, 2, "z", 0), (6, 2, "y", 0))
        self.assertEqual(children(tree, 0), [4, 2, 3, 1])
        self.assertEqual(children(tree, 2), [6, 5])

    def test_refusals(self):
        for number in (1, 3, 7, 8):
            self.assertRaises(NotFolder, children, TREE, number)
        for number in (4, 10, -1):
            self.assertRaises(NoNode, children, TREE, number)
            self.assertRaises(NoNode, children, (), number)

    def test_larger_trees(self):
        for tree in trees_by_chance():
            for number in [0] + [node[0] for node in tree if node[3] is None]:
                inner = sorted((node[2], node[0]) for node in tree if node[1] == number)
                self.assertEqual(children(tree, number), [child for _, child in inner])

    def test_what_is_told_is_new(self):
        told = children(TREE, 0)
        told.clear()
        self.assertEqual(children(TREE, 0), [2, 3, 9])


class Meeting(unittest.TestCase):
    def meet(self, one, other, number):
        self.assertEqual(meeting(TREE, one, other), number)
        self.assertEqual(meeting(TREE, other, one), number)

    def test_of_the_same_node(self):
        for number in (1, 2, 3, 5, 6, 7, 8, 9):
            self.meet(number, number, number)

    def test_of_a_node_and_one_below_it(self):
        self.meet(2, 5, 2)
        self.meet(2, 1, 2)
        self.meet(5, 1, 5)
        self.meet(9, 8, 9)

    def test_at_the_top(self):
        self.meet(2, 3, 0)
        self.meet(1, 8, 0)
        self.meet(3, 9, 0)

    def test_in_a_folder(self):
        self.meet(1, 6, 5)
        self.meet(1, 7, 2)
        self.meet(5, 7, 2)
        self.meet(6, 7, 2)

    def test_names_alone_are_alike(self):
        self.meet(5, 8, 0)
        self.meet(6, 9, 0)
        tree = ((1, 0, "a", None), (2, 1, "x", None), (3, 2, "y", 5), (4, 0, "b", None), (5, 4, "x", None),
                (6, 5, "y", 5), (7, 1, "z", None), (8, 7, "y", 5))
        self.assertEqual(meeting(tree, 3, 6), 0)
        self.assertEqual(meeting(tree, 2, 5), 0)
        self.assertEqual(meeting(tree, 3, 8), 1)

    def test_a_name_that_begins_with_another_one(self):
        tree = ((1, 0, "a", None), (2, 0, "ab", None), (3, 1, "x", 5), (4, 2, "x", 5))
        self.assertEqual(meeting(tree, 3, 4), 0)
        self.assertEqual(meeting(tree, 1, 2), 0)

    def test_no_node(self):
        for number in (4, 10, -1):
            self.assertRaises(NoNode, meeting, TREE, number, 1)
            self.assertRaises(NoNode, meeting, TREE, 1, number)
            self.assertRaises(NoNode, meeting, TREE, number, number)
            self.assertRaises(NoNode, meeting, (), number, number)

    def test_larger_trees(self):
        for tree in trees_by_chance():
            numbers = [node[0] for node in tree]
            for one in numbers:
                for other in numbers:
                    shared = [path for path in (path_of(tree, one)[:length] for length in range(20))
                              if path_of(tree, other)[:len(path)] == path]
                    self.assertEqual(meeting(tree, one, other), find(tree, max(shared, key=len)))


class FirstOfKind(unittest.TestCase):
    def test_without_nodes(self):
        self.assertEqual(first_of_kind(()), (None, None))

    def test_one_kind_alone(self):
        self.assertEqual(first_of_kind(((1, 0, "b", None), (2, 0, "a", None))), (2, None))
        self.assertEqual(first_of_kind(((1, 0, "b", 0), (2, 0, "a", 5))), (None, 2))

    def test_both(self):
        self.assertEqual(first_of_kind(((1, 0, "b", None), (2, 0, "a", 5))), (1, 2))

    def test_the_first_file_is_deep(self):
        self.assertEqual(first_of_kind(TREE), (2, 1))

    def test_the_first_folder_stands_behind_files(self):
        self.assertEqual(first_of_kind(((1, 0, "a", 5), (2, 0, "b", 5), (3, 4, "a", None), (4, 0, "c", None))), (4, 1))

    def test_stamps_of_0(self):
        self.assertEqual(first_of_kind(((1, 0, "a", 0), (2, 0, "b", 5))), (None, 1))

    def test_larger_trees(self):
        for tree in trees_by_chance():
            stamps = {node[0]: node[3] for node in tree}
            folders = [number for _, number in walked(tree) if stamps[number] is None]
            files = [number for _, number in walked(tree) if stamps[number] is not None]
            self.assertEqual(first_of_kind(tree), ((folders + [None])[0], (files + [None])[0]))

    def test_what_is_handed_in_stays(self):
        tree = copy.deepcopy(TREE)
        named(tree, "b")
        stamped(tree, 0, 7)
        by_stamps(tree)
        depth_of(tree, 1)
        children(tree, 0)
        meeting(tree, 1, 6)
        first_of_kind(tree)
        self.assertEqual(tree, TREE)

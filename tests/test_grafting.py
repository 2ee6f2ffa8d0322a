import copy
import random
import unittest

from samples import chance_tree, every_tree
from treewatch.errors import NoNode, NotFolder, Taken, TreeError
from treewatch.grafting import cut_out, grafted, numbered_by_paths, without
from treewatch.trees import below, is_tree, walked

# a/       2
# a/b/     5
# a/b/d    1  (stamp 7)
# a/b/e/   6, empty
# a/z      7  (stamp 0)
# b        3  (stamp 9)
# e/       9, empty
TREE = (
    (1, 5, "d", 7),
    (2, 0, "a", None),
    (3, 0, "b", 9),
    (5, 2, "b", None),
    (6, 5, "e", None),
    (7, 2, "z", 0),
    (9, 0, "e", None),
)
# x/    4
# x/a   2  (stamp 1)
# y     1  (stamp 5)
OTHER = ((1, 0, "y", 5), (2, 4, "a", 1), (4, 0, "x", None))


def told_plainly(tree):
    stamps = {node[0]: node[3] for node in tree}
    return [(path, stamps[number]) for path, number in walked(tree)]


def folders_of(tree):
    return [node[0] for node in tree if node[3] is None]


def trees_by_chance():
    chance = random.Random(14)
    for _ in range(100):
        yield chance_tree(chance, tuple(range(1, 20)), ("a", "b", "ab"))


class Refusals(unittest.TestCase):
    def test_no_node(self):
        for number in (4, 10, -1):
            for tree in (TREE, ()):
                self.assertRaises(NoNode, cut_out, tree, number)
                self.assertRaises(NoNode, without, tree, number)
                self.assertRaises(NoNode, grafted, tree, number, OTHER)
                self.assertRaises(NoNode, grafted, tree, number, ())
                self.assertRaises(NoNode, grafted, tree, number, tree)

    def test_not_a_folder(self):
        for number in (1, 3, 7):
            self.assertRaises(NotFolder, cut_out, TREE, number)
            self.assertRaises(NotFolder, without, TREE, number)
            self.assertRaises(NotFolder, grafted, TREE, number, OTHER)
            self.assertRaises(NotFolder, grafted, TREE, number, ())
            self.assertRaises(NotFolder, grafted, TREE, number, TREE)


class CutOut(unittest.TestCase):
    def test_of_the_top(self):
        self.assertEqual(cut_out(TREE, 0), TREE)
        self.assertEqual(cut_out((), 0), ())

    def test_of_an_empty_folder(self):
        self.assertEqual(cut_out(TREE, 9), ())
        self.assertEqual(cut_out(TREE, 6), ())

    def test_of_folders(self):
        self.assertEqual(cut_out(TREE, 5), ((1, 0, "d", 7), (6, 0, "e", None)))
        self.assertEqual(cut_out(TREE, 2), (
            (1, 5, "d", 7), (5, 0, "b", None), (6, 5, "e", None), (7, 0, "z", 0),
        ))

    def test_larger_trees(self):
        for tree in trees_by_chance():
            for number in folders_of(tree):
                told = cut_out(tree, number)
                self.assertIs(is_tree(told), True)
                self.assertEqual([node[0] for node in told], below(tree, number))
                self.assertEqual(told, tuple(
                    node if node[1] != number else (node[0], 0) + node[2:]
                    for node in tree if node[0] in below(tree, number)
                ))


class Without(unittest.TestCase):
    def test_of_the_top(self):
        self.assertEqual(without(TREE, 0), ())
        self.assertEqual(without((), 0), ())

    def test_of_an_empty_folder(self):
        self.assertEqual(without(TREE, 9), TREE)
        self.assertEqual(without(TREE, 6), TREE)

    def test_of_folders(self):
        self.assertEqual(without(TREE, 5), (
            (2, 0, "a", None), (3, 0, "b", 9), (5, 2, "b", None), (7, 2, "z", 0), (9, 0, "e", None),
        ))
        self.assertEqual(without(TREE, 2), ((2, 0, "a", None), (3, 0, "b", 9), (9, 0, "e", None)))

    def test_larger_trees(self):
        for tree in trees_by_chance():
            for number in folders_of(tree):
                told = without(tree, number)
                self.assertIs(is_tree(told), True)
                self.assertEqual(told, tuple(node for node in tree if node[0] not in below(tree, number)))


class Grafted(unittest.TestCase):
    def test_into_the_top(self):
        self.assertEqual(grafted(TREE, 0, OTHER), TREE + (
            (10, 0, "y", 5), (11, 13, "a", 1), (13, 0, "x", None),
        ))

    def test_into_a_folder(self):
        for number in (2, 5, 6, 9):
            self.assertEqual(grafted(TREE, number, OTHER), TREE + (
                (10, number, "y", 5), (11, 13, "a", 1), (13, number, "x", None),
            ))

    def test_into_a_tree_without_nodes(self):
        self.assertEqual(grafted((), 0, OTHER), OTHER)
        self.assertEqual(grafted((), 0, ()), ())

    def test_of_a_tree_without_nodes(self):
        for number in (0, 2, 5, 9):
            self.assertEqual(grafted(TREE, number, ()), TREE)

    def test_by_the_greatest_and_not_by_how_many(self):
        tree = ((50, 0, "a", None),)
        self.assertEqual(grafted(tree, 50, ((3, 0, "a", 5),)), ((50, 0, "a", None), (53, 50, "a", 5)))
        self.assertEqual(grafted(((1, 0, "a", None),), 1, ((30, 0, "a", 5),)), ((1, 0, "a", None), (31, 1, "a", 5)))

    def test_the_folder_has_a_number_that_the_other_tree_has(self):
        tree = ((1, 0, "a", None), (2, 0, "b", None))
        other = ((1, 0, "x", None), (2, 1, "y", 5))
        self.assertEqual(grafted(tree, 2, other), tree + ((3, 2, "x", None), (4, 3, "y", 5)))
        self.assertEqual(grafted(tree, 1, other), tree + ((3, 1, "x", None), (4, 3, "y", 5)))

    def test_taken(self):
        self.assertRaises(Taken, grafted, TREE, 0, ((1, 0, "b", 5),))
        self.assertRaises(Taken, grafted, TREE, 0, ((1, 0, "a", None),))
        self.assertRaises(Taken, grafted, TREE, 2, ((1, 0, "y", 5), (2, 0, "z", None)))
        self.assertRaises(Taken, grafted, TREE, 0, TREE)
        self.assertRaises(Taken, grafted, TREE, 2, cut_out(TREE, 2))

    def test_names_that_are_elsewhere_are_free(self):
        self.assertEqual(grafted(TREE, 9, ((1, 0, "b", 5),)), TREE + ((10, 9, "b", 5),))
        self.assertEqual(grafted(TREE, 0, ((1, 0, "x", None), (2, 1, "b", 5))),
                         TREE + ((10, 0, "x", None), (11, 10, "b", 5)))
        self.assertEqual(grafted(TREE, 0, ((1, 0, "d", 5),)), TREE + ((10, 0, "d", 5),))

    def test_a_tree_into_itself(self):
        told = grafted(TREE, 9, TREE)
        self.assertEqual(len(told), 14)
        self.assertIs(is_tree(told), True)
        self.assertEqual(cut_out(told, 9), tuple(
            (node[0] + 9, node[1] + 9 if node[1] else 0) + node[2:] for node in TREE
        ))

    def test_put_in_again(self):
        trees = list(trees_by_chance()) + every_tree((1, 2, 3), ("a", "b"), (None, 4)) + [TREE]
        for tree in trees:
            for number in [0] + folders_of(tree):
                told = grafted(without(tree, number), number, cut_out(tree, number))
                self.assertIs(is_tree(told), True)
                self.assertEqual(told_plainly(told), told_plainly(tree))

    def test_every_pair_of_small_trees(self):
        trees = every_tree((1, 2), ("a", "b"), (None, 4))
        for tree in trees:
            for other in trees:
                for number in range(-1, 4):
                    self.follows(tree, number, other)

    def follows(self, tree, number, other):
        stamps = {node[0]: node[3] for node in tree}
        stamps[0] = None
        names = [node[2] for node in tree if node[1] == number]
        if number not in stamps:
            self.assertRaises(NoNode, grafted, tree, number, other)
        elif stamps[number] is not None:
            self.assertRaises(NotFolder, grafted, tree, number, other)
        elif any(node[1] == 0 and node[2] in names for node in other):
            self.assertRaises(Taken, grafted, tree, number, other)
        else:
            more = max(stamps)
            self.assertEqual(grafted(tree, number, other), tree + tuple(
                (node[0] + more, node[1] + more if node[1] else number) + node[2:] for node in other
            ))


class NumberedByPaths(unittest.TestCase):
    def test_without_nodes(self):
        self.assertEqual(numbered_by_paths((), 1), ())
        self.assertEqual(numbered_by_paths((), 70), ())

    def test_from_1(self):
        self.assertEqual(numbered_by_paths(TREE, 1), (
            (1, 0, "a", None), (2, 1, "b", None), (3, 2, "d", 7), (4, 2, "e", None), (5, 1, "z", 0), (6, 0, "b", 9),
            (7, 0, "e", None),
        ))

    def test_from_a_greater_number(self):
        self.assertEqual(numbered_by_paths(OTHER, 100), ((100, 0, "x", None), (101, 100, "a", 1), (102, 0, "y", 5)))
        self.assertEqual(numbered_by_paths(OTHER, 2), ((2, 0, "x", None), (3, 2, "a", 1), (4, 0, "y", 5)))

    def test_names_that_begin_with_another_one(self):
        tree = ((1, 0, "ab", 5), (2, 0, "a", None), (3, 2, "z", 6))
        self.assertEqual(numbered_by_paths(tree, 1), ((1, 0, "a", None), (2, 1, "z", 6), (3, 0, "ab", 5)))

    def test_one_that_goes_by_paths_already(self):
        tree = ((1, 0, "a", None), (2, 1, "z", 6), (3, 0, "b", 5))
        self.assertEqual(numbered_by_paths(tree, 1), tree)

    def test_larger_trees(self):
        for tree in trees_by_chance():
            for first in (1, 5, 300):
                told = numbered_by_paths(tree, first)
                self.assertIs(is_tree(told), True)
                self.assertEqual(told_plainly(told), told_plainly(tree))
                self.assertEqual([number for _, number in walked(told)], list(range(first, first + len(tree))))

    def test_what_is_handed_in_stays(self):
        tree, other = copy.deepcopy((TREE, OTHER))
        cut_out(tree, 2)
        without(tree, 2)
        grafted(tree, 2, other)
        self.assertRaises(TreeError, grafted, tree, 0, tree)
        numbered_by_paths(tree, 3)
        self.assertEqual((tree, other), (TREE, OTHER))

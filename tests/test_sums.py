import copy
import random
import unittest

from samples import chance_tree, every_tree
from treewatch.errors import NoNode, NotFolder
from treewatch.sums import alike_folders, deepest, shape, total
from treewatch.trees import below, path_of, walked

# a/       2
# a/b/     5
# a/b/d    1  (stamp 7)
# a/b/e/   6, empty
# a/z      7  (stamp 8)
# b        3  (stamp 0)
# e/       9, empty
TREE = (
    (1, 5, "d", 7),
    (2, 0, "a", None),
    (3, 0, "b", 0),
    (5, 2, "b", None),
    (6, 5, "e", None),
    (7, 2, "z", 8),
    (9, 0, "e", None),
)


def shape_plainly(tree, number):
    nodes = {node[0]: node for node in tree}
    start = len(path_of(tree, number)) if number else 0
    return sorted((path_of(tree, inner)[start:], nodes[inner][3]) for inner in below(tree, number))


def folders_of(tree):
    return [node[0] for node in tree if node[3] is None]


def alike_plainly(tree):
    shapes = {number: shape_plainly(tree, number) for number in folders_of(tree)}
    return sorted((one, other) for one in shapes for other in shapes
                  if one < other and shapes[one] == shapes[other] != [])


def trees_by_chance():
    chance = random.Random(11)
    for _ in range(200):
        yield chance_tree(chance, tuple(range(1, 25)), ("a", "b"))


def trees_with_alike_folders():
    chance = random.Random(12)
    for _ in range(200):
        numbers = chance.sample(range(1, 60), 40)
        # Of few names and stamps, and not deep: so many folders are alike.
        tree = [(numbers.pop(), 0, name, None) for name in ("a", "b", "c", "d")]
        for number, parent, name, _ in tree[:]:
            for inner in chance.sample(("x", "y", "z"), chance.randrange(4)):
                tree.append((numbers.pop(), number, inner, chance.choice((None, None, 0, 1))))
        for number, parent, name, stamp in tree[4:]:
            if stamp is None and chance.randrange(2):
                tree.append((numbers.pop(), number, "x", chance.choice((None, 0))))
        yield tuple(sorted(tree))


class Total(unittest.TestCase):
    def test_of_the_top(self):
        self.assertEqual(total((), 0), (0, 0, 0))
        self.assertEqual(total(TREE, 0), (4, 3, 15))

    def test_of_a_folder_without_nodes(self):
        self.assertEqual(total(TREE, 9), (0, 0, 0))
        self.assertEqual(total(TREE, 6), (0, 0, 0))

    def test_of_folders_in_folders(self):
        self.assertEqual(total(TREE, 2), (2, 2, 15))
        self.assertEqual(total(TREE, 5), (1, 1, 7))

    def test_stamps_of_0(self):
        tree = ((1, 0, "a", None), (2, 1, "a", 0), (3, 1, "b", 0))
        self.assertEqual(total(tree, 1), (0, 2, 0))
        self.assertEqual(total(tree, 0), (1, 2, 0))

    def test_great_stamps(self):
        tree = ((1, 0, "a", None), (2, 1, "a", 999), (3, 1, "b", 999), (4, 1, "c", 999))
        self.assertEqual(total(tree, 1), (0, 3, 2997))

    def test_refusals(self):
        self.assertRaises(NotFolder, total, TREE, 7)
        self.assertRaises(NotFolder, total, TREE, 3)
        for number in (4, 10, -1, 1000):
            self.assertRaises(NoNode, total, TREE, number)
            self.assertRaises(NoNode, total, (), number)

    def test_larger_trees(self):
        for tree in trees_by_chance():
            for number in [0] + folders_of(tree):
                stamps = [stamp for _, stamp in shape_plainly(tree, number)]
                files = [stamp for stamp in stamps if stamp is not None]
                self.assertEqual(total(tree, number), (stamps.count(None), len(files), sum(files)))

    def test_kinds_of_what_is_told(self):
        told = total(TREE, 2)
        self.assertIs(type(told), tuple)
        self.assertEqual([type(part) for part in told], [int, int, int])


class Shape(unittest.TestCase):
    def test_of_the_top(self):
        self.assertEqual(shape((), 0), [])
        self.assertEqual(shape(TREE, 0), [
            (("a",), None), (("a", "b"), None), (("a", "b", "d"), 7), (("a", "b", "e"), None), (("a", "z"), 8),
            (("b",), 0), (("e",), None),
        ])

    def test_of_a_folder_without_nodes(self):
        self.assertEqual(shape(TREE, 9), [])
        self.assertEqual(shape(TREE, 6), [])

    def test_of_folders_in_folders(self):
        self.assertEqual(shape(TREE, 2), [(("b",), None), (("b", "d"), 7), (("b", "e"), None), (("z",), 8)])
        self.assertEqual(shape(TREE, 5), [(("d",), 7), (("e",), None)])

    def test_by_paths_and_not_by_numbers(self):
        tree = ((1, 9, "c", 5), (2, 9, "ab", 6), (3, 9, "a", None), (4, 3, "z", 0), (9, 0, "q", None))
        self.assertEqual(shape(tree, 9), [(("a",), None), (("a", "z"), 0), (("ab",), 6), (("c",), 5)])

    def test_refusals(self):
        self.assertRaises(NotFolder, shape, TREE, 7)
        self.assertRaises(NotFolder, shape, TREE, 3)
        for number in (4, 10, -1, 1000):
            self.assertRaises(NoNode, shape, TREE, number)
            self.assertRaises(NoNode, shape, (), number)

    def test_larger_trees(self):
        for tree in trees_by_chance():
            for number in [0] + folders_of(tree):
                self.assertEqual(shape(tree, number), shape_plainly(tree, number))

    def test_what_is_told_is_new(self):
        told = shape(TREE, 5)
        self.assertIs(type(told), list)
        self.assertEqual({type(part) for part in told}, {tuple})
        told.clear()
        self.assertEqual(shape(TREE, 5), [(("d",), 7), (("e",), None)])


class Deepest(unittest.TestCase):
    def test_without_nodes(self):
        self.assertIsNone(deepest(()))

    def test_one(self):
        self.assertEqual(deepest(((4, 0, "a", None),)), 4)
        self.assertEqual(deepest(((4, 0, "a", 5),)), 4)

    def test_a_folder(self):
        self.assertEqual(deepest(((1, 0, "a", 5), (2, 0, "b", None), (3, 2, "c", None))), 3)

    def test_a_file(self):
        self.assertEqual(deepest(((1, 0, "z", None), (2, 1, "c", 0), (3, 0, "a", None))), 2)

    def test_several_go_by_paths(self):
        self.assertEqual(deepest(TREE), 1)
        self.assertEqual(deepest(((1, 0, "c", 5), (2, 0, "b", None), (3, 0, "a", 6))), 3)
        # a/z comes ahead of b/a, whichever name is last.
        self.assertEqual(deepest(((1, 2, "a", 5), (2, 0, "b", None), (3, 0, "a", None), (4, 3, "z", 5))), 4)

    def test_not_the_longest_names(self):
        self.assertEqual(deepest(((1, 0, "abcde", 5), (2, 0, "b", None), (3, 2, "a", 6))), 3)

    def test_larger_trees(self):
        for tree in trees_by_chance():
            longest = max(len(path) for path, _ in walked(tree))
            self.assertEqual(deepest(tree), [number for path, number in walked(tree) if len(path) == longest][0])


class AlikeFolders(unittest.TestCase):
    def test_none(self):
        self.assertEqual(alike_folders(()), [])
        self.assertEqual(alike_folders(TREE), [])
        self.assertEqual(alike_folders(((1, 0, "a", 5), (2, 0, "b", 5))), [])
        self.assertEqual(alike_folders(((1, 0, "a", None), (2, 1, "x", 5))), [])

    def test_two(self):
        tree = ((1, 0, "a", None), (2, 0, "b", None), (3, 1, "x", 5), (4, 2, "x", 5))
        self.assertEqual(alike_folders(tree), [(1, 2)])

    def test_three(self):
        tree = ((1, 2, "x", 5), (2, 0, "a", None), (3, 0, "b", None), (4, 3, "x", 5), (5, 3, "y", None), (6, 5, "x", 5),
                (7, 0, "c", None), (8, 7, "x", 5))
        self.assertEqual(alike_folders(tree), [(2, 5), (2, 7), (5, 7)])

    def test_four_and_two(self):
        tree = tuple((number, 0, "abcdef"[number - 1], None) for number in range(1, 7))
        tree += tuple((number + 6, number, "x", 5 if number in (1, 3, 4, 6) else 4) for number in range(1, 7))
        self.assertEqual(alike_folders(tree), [(1, 3), (1, 4), (1, 6), (2, 5), (3, 4), (3, 6), (4, 6)])

    def test_empty_folders(self):
        self.assertEqual(alike_folders(((1, 0, "a", None), (2, 0, "b", None))), [])
        self.assertEqual(alike_folders(((1, 0, "a", None), (2, 1, "b", None), (3, 0, "c", None))), [])
        # Those that hold one are not empty themselves.
        tree = ((1, 0, "a", None), (2, 0, "b", None), (3, 1, "x", None), (4, 2, "x", None))
        self.assertEqual(alike_folders(tree), [(1, 2)])

    def test_unlike_in_one_thing(self):
        for other in ((4, 2, "x", 6), (4, 2, "y", 5), (4, 2, "x", None), (4, 2, "x", 0)):
            tree = ((1, 0, "a", None), (2, 0, "b", None), (3, 1, "x", 5), other)
            self.assertEqual(alike_folders(tree), [], other)
        tree = ((1, 0, "a", None), (2, 0, "b", None), (3, 1, "x", 0), (4, 2, "x", None))
        self.assertEqual(alike_folders(tree), [])

    def test_one_has_more(self):
        tree = ((1, 0, "a", None), (2, 0, "b", None), (3, 1, "x", 5), (4, 2, "x", 5), (5, 2, "y", 5))
        self.assertEqual(alike_folders(tree), [])

    def test_unlike_deep_below(self):
        tree = ((1, 0, "a", None), (2, 0, "b", None), (3, 1, "x", None), (4, 2, "x", None), (5, 3, "y", 5))
        self.assertEqual(alike_folders(tree + ((6, 4, "y", 5),)), [(1, 2), (3, 4)])
        self.assertEqual(alike_folders(tree + ((6, 4, "y", 6),)), [])
        self.assertEqual(alike_folders(tree + ((6, 4, "z", 5),)), [])
        self.assertEqual(alike_folders(tree), [])

    def test_the_same_below_in_other_folders(self):
        # Both hold the same names and stamps, but not at the same paths.
        tree = ((1, 0, "a", None), (2, 0, "b", None), (3, 1, "x", None), (4, 3, "y", 5), (5, 2, "x", None),
                (6, 2, "y", 5))
        self.assertEqual(alike_folders(tree), [])

    def test_a_folder_and_one_in_it(self):
        tree = ((1, 0, "a", None), (2, 1, "a", None), (3, 2, "a", None))
        self.assertEqual(alike_folders(tree), [])
        tree = ((1, 0, "a", None), (2, 1, "x", 5), (3, 1, "b", None), (4, 3, "x", 5))
        self.assertEqual(alike_folders(tree), [])
        tree = ((1, 0, "p", None), (2, 1, "a", None), (3, 2, "x", 5), (4, 0, "q", None), (5, 4, "x", 5))
        self.assertEqual(alike_folders(tree), [(2, 4)])

    def test_the_own_names_do_not_matter(self):
        tree = ((1, 0, "p", None), (2, 1, "x", 5), (3, 0, "q", None), (4, 3, "x", 5))
        self.assertEqual(alike_folders(tree), [(1, 3)])

    def test_the_lesser_number_stands_later_by_paths(self):
        tree = ((1, 0, "z", None), (2, 0, "a", None), (3, 1, "x", 5), (4, 2, "x", 5), (5, 0, "m", None), (6, 5, "x", 5))
        self.assertEqual(alike_folders(tree), [(1, 2), (1, 5), (2, 5)])

    def test_numbers_of_what_lies_in_them_do_not_matter(self):
        tree = ((1, 0, "a", None), (2, 0, "b", None), (3, 1, "x", 5), (4, 1, "y", 6), (5, 2, "y", 6), (6, 2, "x", 5))
        self.assertEqual(alike_folders(tree), [(1, 2)])

    def test_every_small_tree(self):
        for tree in every_tree((1, 2, 3, 4), ("a",), (None, 0)):
            self.assertEqual(alike_folders(tree), alike_plainly(tree), tree)

    def test_larger_trees(self):
        found = 0
        for tree in trees_with_alike_folders():
            self.assertEqual(alike_folders(tree), alike_plainly(tree), tree)
            found += len(alike_folders(tree))
        self.assertGreater(found, 100)

    def test_deeper_than_a_recursion_may_go(self):
        chain = tuple((number, number - 1, "a", None) for number in range(1, 1201))
        self.assertEqual(alike_folders(chain), [])
        self.assertEqual(deepest(chain), 1200)
        self.assertEqual(total(chain, 1), (1199, 0, 0))
        self.assertEqual(shape(chain, 1199), [(("a",), None)])

    def test_what_is_told_is_new(self):
        tree = ((1, 0, "a", None), (2, 0, "b", None), (3, 1, "x", 5), (4, 2, "x", 5))
        told = alike_folders(tree)
        self.assertIs(type(told), list)
        self.assertEqual({type(part) for part in told}, {tuple})
        told.append((3, 4))
        self.assertEqual(alike_folders(tree), [(1, 2)])

    def test_what_is_handed_in_stays(self):
        tree = copy.deepcopy(TREE)
        for number in (0, 2, 5, 9):
            total(tree, number)
            shape(tree, number)
        deepest(tree)
        alike_folders(tree)
        self.assertEqual(tree, TREE)

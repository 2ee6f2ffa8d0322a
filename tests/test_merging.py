import copy
import itertools
import random
import unittest

from samples import chance_deeds, chance_tree, every_tree
from treewatch.changes import applied, change_between
from treewatch.deeds import all_done
from treewatch.errors import NoMatch
from treewatch.merging import clashing, kept_alike, merged
from treewatch.trees import is_tree

# a/       2
# a/b/     5
# a/b/d    1  (stamp 7)
# a/z      7  (stamp 8)
# b        3  (stamp 9)
# e/       9, empty
TREE = (
    (1, 5, "d", 7),
    (2, 0, "a", None),
    (3, 0, "b", 9),
    (5, 2, "b", None),
    (7, 2, "z", 8),
    (9, 0, "e", None),
)


def behind(*deeds):
    return all_done(TREE, list(deeds))


def parts_of(tree):
    return {node[0]: node[1:] for node in tree}


def clashing_plainly(first, one, other):
    was, mine, theirs = parts_of(first), parts_of(one), parts_of(other)
    return [number for number in range(1, 30)
            if mine.get(number) != was.get(number) != theirs.get(number) != mine.get(number)]


def merged_plainly(first, one, other):
    """The tree, or None where merged is refused."""
    was, mine, theirs = parts_of(first), parts_of(one), parts_of(other)
    if clashing_plainly(first, one, other):
        return None
    nodes = []
    for number in range(1, 30):
        part = theirs.get(number) if mine.get(number) == was.get(number) else mine.get(number)
        if part is not None:
            nodes.append((number,) + part)
    return tuple(nodes) if is_tree(tuple(nodes)) else None


class Merging(unittest.TestCase):
    def merge(self, one, other, told):
        for ours, theirs in ((one, other), (other, one)):
            self.assertEqual(clashing(TREE, ours, theirs), [])
            self.assertEqual(merged(TREE, ours, theirs), told)

    def clash(self, one, other, numbers):
        for ours, theirs in ((one, other), (other, one)):
            self.assertEqual(clashing(TREE, ours, theirs), numbers)
            self.assertRaises(NoMatch, merged, TREE, ours, theirs)

    def no_tree(self, first, one, other):
        for ours, theirs in ((one, other), (other, one)):
            self.assertEqual(clashing(first, ours, theirs), [])
            self.assertRaises(NoMatch, merged, first, ours, theirs)


class NoClash(Merging):
    def test_nothing_changed(self):
        self.merge(TREE, TREE, TREE)
        self.assertEqual(clashing((), (), ()), [])
        self.assertEqual(merged((), (), ()), ())

    def test_changed_by_one_alone(self):
        for deed in (("make", 4, 9, "x", 3), ("make", 10, 0, "x", None), ("write", 7, 0), ("move", 5, 9, "q"),
                     ("move", 3, 0, "c"), ("drop", 3), ("drop", 2)):
            with self.subTest(deed=deed):
                self.merge(behind(deed), TREE, behind(deed))

    def test_changed_by_each(self):
        one = (("write", 7, 0), ("move", 5, 9, "q"), ("make", 4, 9, "x", 3))
        other = (("drop", 3), ("write", 1, 6), ("make", 10, 2, "y", None))
        self.merge(behind(*one), behind(*other), behind(*one, *other))

    def test_changed_by_both_in_the_same_way(self):
        for deed in (("write", 7, 0), ("move", 5, 9, "q"), ("drop", 3), ("drop", 2), ("make", 4, 9, "x", 3)):
            with self.subTest(deed=deed):
                self.merge(behind(deed), behind(deed), behind(deed))

    def test_gone_in_both_and_more(self):
        self.merge(behind(("drop", 3), ("write", 7, 0)), behind(("drop", 3), ("drop", 9)),
                   behind(("drop", 3), ("write", 7, 0), ("drop", 9)))

    def test_made_in_both_alike(self):
        self.merge(behind(("make", 4, 9, "x", 3), ("write", 7, 0)), behind(("make", 4, 9, "x", 3)),
                   behind(("make", 4, 9, "x", 3), ("write", 7, 0)))

    def test_a_name_that_became_free(self):
        self.merge(behind(("drop", 3)), behind(("make", 10, 9, "b", 5)), behind(("drop", 3), ("make", 10, 9, "b", 5)))
        one = behind(("drop", 3), ("make", 10, 0, "b", 5))
        self.merge(one, behind(("write", 7, 0)), all_done(one, [("write", 7, 0)]))

    def test_moved_into_a_folder_that_the_other_moved(self):
        self.merge(behind(("move", 3, 5, "b")), behind(("move", 5, 0, "q")),
                   behind(("move", 5, 0, "q"), ("move", 3, 5, "b")))

    def test_the_first_without_nodes(self):
        one, other = ((1, 0, "a", None), (2, 1, "x", 5)), ((1, 0, "a", None), (3, 1, "y", 5))
        self.assertEqual(merged((), one, other), ((1, 0, "a", None), (2, 1, "x", 5), (3, 1, "y", 5)))

    def test_all_gone_in_one(self):
        self.merge((), TREE, ())
        self.merge((), (), ())

    def test_with_the_first_or_with_itself(self):
        for other in ((), behind(("drop", 2)), behind(("write", 7, 0), ("make", 4, 9, "x", 3))):
            self.assertEqual(merged(TREE, other, TREE), other)
            self.assertEqual(merged(TREE, TREE, other), other)
            self.assertEqual(merged(TREE, other, other), other)
            self.assertEqual(merged(other, other, other), other)


class Clash(Merging):
    def test_changed_by_both_otherwise(self):
        self.clash(behind(("write", 7, 0)), behind(("write", 7, 1)), [7])
        self.clash(behind(("write", 7, 0)), behind(("move", 7, 0, "z")), [7])
        self.clash(behind(("move", 5, 0, "q")), behind(("move", 5, 9, "q")), [5])
        self.clash(behind(("move", 5, 0, "q")), behind(("move", 5, 0, "r")), [5])

    def test_gone_in_one_and_changed_in_the_other(self):
        self.clash(behind(("drop", 3)), behind(("write", 3, 1)), [3])
        self.clash(behind(("drop", 2)), behind(("write", 1, 1)), [1])
        self.clash(behind(("drop", 2)), behind(("write", 1, 1), ("move", 5, 0, "q")), [1, 5])
        self.clash((), behind(("write", 7, 0), ("write", 3, 0)), [3, 7])

    def test_made_in_both_unlike(self):
        made = ("make", 4, 9, "x", 3)
        for place in ((9, "x", 4), (9, "x", None), (9, "y", 3), (0, "x", 3)):
            self.clash(behind(made), behind(("make", 4) + place), [4])

    def test_several_rise_among_others_that_do_not_clash(self):
        one = behind(("write", 7, 0), ("write", 3, 0), ("write", 1, 0), ("make", 10, 0, "x", 0), ("drop", 9))
        other = behind(("write", 7, 1), ("write", 3, 0), ("drop", 1), ("make", 10, 0, "x", 1))
        self.clash(one, other, [1, 7, 10])

    def test_what_is_told_is_new(self):
        one, other = behind(("write", 7, 0)), behind(("write", 7, 1))
        told = clashing(TREE, one, other)
        self.assertIs(type(told), list)
        told.clear()
        self.assertEqual(clashing(TREE, one, other), [7])


class NoTree(Merging):
    def test_a_name_told_twice(self):
        self.no_tree(TREE, behind(("make", 4, 9, "x", 3)), behind(("make", 6, 9, "x", 3)))
        self.no_tree(TREE, behind(("make", 4, 0, "x", 3)), behind(("move", 7, 0, "x")))
        self.no_tree(TREE, behind(("move", 3, 9, "x")), behind(("move", 5, 9, "x")))

    def test_made_or_moved_to_a_folder_that_is_gone(self):
        self.no_tree(TREE, behind(("drop", 9)), behind(("make", 4, 9, "x", 3)))
        self.no_tree(TREE, behind(("drop", 9)), behind(("move", 3, 9, "x")))
        self.no_tree(TREE, behind(("drop", 2)), behind(("make", 4, 5, "x", None)))

    def test_a_ring(self):
        first = ((1, 0, "a", None), (2, 0, "b", None))
        self.no_tree(first, ((1, 2, "a", None), (2, 0, "b", None)), ((1, 0, "a", None), (2, 1, "b", None)))
        self.no_tree(TREE, behind(("move", 9, 5, "e")), behind(("move", 2, 9, "a")))

    def test_a_folder_that_became_a_file(self):
        one = TREE[:-1] + ((9, 0, "e", 4),)
        self.no_tree(TREE, one, behind(("make", 4, 9, "x", 3)))
        self.assertEqual(merged(TREE, one, behind(("drop", 3))), tuple(node for node in one if node[0] != 3))


class AllTrees(Merging):
    def holds(self, first, one, other):
        told = merged_plainly(first, one, other)
        case = (first, one, other)
        self.assertEqual(clashing(first, one, other), clashing_plainly(first, one, other), case)
        if told is None:
            self.assertRaises(NoMatch, merged, first, one, other)
            return 0
        self.assertEqual(merged(first, one, other), told, case)
        self.assertEqual(merged(first, other, one), told, case)
        return 1

    def test_every_three_small_trees(self):
        trees = every_tree((1, 2), ("a",), (None, 0)) + every_tree((1,), ("b",), (None, 0))
        for first, one, other in itertools.product(trees, repeat=3):
            self.holds(first, one, other)

    def test_larger_trees(self):
        chance = random.Random(10)
        numbers, names = tuple(range(1, 16)), ("a", "b", "c", "d")
        went = 0
        for _ in range(400):
            first = chance_tree(chance, numbers, names)
            one = all_done(first, chance_deeds(chance, first, numbers, names, 3))
            other = all_done(first, chance_deeds(chance, first, numbers, names, 3))
            went += self.holds(first, one, other)
        self.assertGreater(went, 50)
        self.assertLess(went, 350)

    def test_what_is_merged_has_what_either_changed(self):
        one, other = behind(("write", 7, 0), ("drop", 3)), behind(("move", 5, 9, "q"), ("make", 4, 0, "x", 1))
        told = merged(TREE, one, other)
        self.assertEqual(told, applied(one, change_between(TREE, other)))
        self.assertEqual(told, applied(other, change_between(TREE, one)))

    def test_what_is_handed_in_stays(self):
        one, other = behind(("write", 7, 0)), behind(("write", 7, 1))
        trees = copy.deepcopy((TREE, one, other))
        clashing(*trees)
        merged(trees[0], trees[1], trees[0])
        self.assertRaises(NoMatch, merged, *trees)
        kept_alike(trees[1], trees[2])
        self.assertEqual(trees, (TREE, one, other))


class KeptAlike(unittest.TestCase):
    def test_all_and_none(self):
        self.assertEqual(kept_alike(TREE, TREE), [1, 2, 3, 5, 7, 9])
        self.assertEqual(kept_alike((), ()), [])
        self.assertEqual(kept_alike(TREE, ()), [])
        self.assertEqual(kept_alike((), TREE), [])

    def test_some(self):
        for deed in (("write", 7, 0), ("move", 5, 9, "b"), ("move", 3, 0, "c"), ("drop", 9)):
            left = [number for number in (1, 2, 3, 5, 7, 9) if number != deed[1]]
            self.assertEqual(kept_alike(TREE, behind(deed)), left)
            self.assertEqual(kept_alike(behind(deed), TREE), left)

    def test_made_ones_are_not_among_them(self):
        made = behind(("make", 4, 9, "x", 3))
        self.assertEqual(kept_alike(TREE, made), [1, 2, 3, 5, 7, 9])
        self.assertEqual(kept_alike(made, TREE), [1, 2, 3, 5, 7, 9])

    def test_the_same_path_by_another_number(self):
        self.assertEqual(kept_alike(((1, 0, "a", 5),), ((2, 0, "a", 5),)), [])

    def test_a_folder_and_a_file(self):
        self.assertEqual(kept_alike(((1, 0, "a", None),), ((1, 0, "a", 0),)), [])

    def test_what_is_told_is_new(self):
        told = kept_alike(TREE, TREE)
        self.assertIs(type(told), list)
        told.clear()
        self.assertEqual(kept_alike(TREE, TREE), [1, 2, 3, 5, 7, 9])

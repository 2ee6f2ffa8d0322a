import copy
import random
import unittest

from samples import chance_tree, every_tree
from treewatch.changes import applied, change_between, counted, joined, turned_back
from treewatch.errors import NoMatch, TreeError
from treewatch.trees import is_tree

# a/       2
# a/b/     5
# a/b/d    1  (stamp 7)
# a/z      7  (stamp 8)
# b        3  (stamp 9)
# e/       9, empty
TREE = (
    (1, 5, "d", 7),
    (2, 0, "a", None),
    (3, 0, "b", 9),
    (5, 2, "b", None),
    (7, 2, "z", 8),
    (9, 0, "e", None),
)

MADE = ((4, None, (9, "x", 3)),)
MADE_FOLDER = ((10, None, (0, "x", None)),)
GONE = ((3, (0, "b", 9), None),)
GONE_FOLDER = ((1, (5, "d", 7), None), (5, (2, "b", None), None))
WRITTEN = ((7, (2, "z", 8), (2, "z", 0)),)
MOVED = ((5, (2, "b", None), (9, "b", None)),)
RENAMED = ((3, (0, "b", 9), (0, "c", 9)),)
MOVED_AND_RENAMED = ((3, (0, "b", 9), (9, "c", 9)),)
MOVED_AND_WRITTEN = ((3, (0, "b", 9), (9, "b", 5)),)
RENAMED_AND_WRITTEN = ((3, (0, "b", 9), (0, "c", 5)),)
BECOME_FILE = ((9, (0, "e", None), (0, "e", 4)),)
BECOME_FOLDER = ((3, (0, "b", 9), (0, "b", None)),)
CHANGES = (
    (), MADE, MADE_FOLDER, GONE, GONE_FOLDER, WRITTEN, MOVED, RENAMED, MOVED_AND_RENAMED, MOVED_AND_WRITTEN,
    RENAMED_AND_WRITTEN, BECOME_FILE, BECOME_FOLDER,
)


def put_into(tree, change):
    nodes = {node[0]: node for node in tree}
    for number, _, new in change:
        nodes.pop(number, None)
        if new is not None:
            nodes[number] = (number,) + new
    return tuple(nodes[number] for number in sorted(nodes))


class ChangeBetween(unittest.TestCase):
    def test_the_same(self):
        self.assertEqual(change_between(TREE, TREE), ())
        self.assertEqual(change_between((), ()), ())

    def test_all_made_and_all_gone(self):
        self.assertEqual(change_between((), TREE), tuple((node[0], None, node[1:]) for node in TREE))
        self.assertEqual(change_between(TREE, ()), tuple((node[0], node[1:], None) for node in TREE))

    def test_each_kind(self):
        for change in CHANGES:
            with self.subTest(change=change):
                self.assertEqual(change_between(TREE, put_into(TREE, change)), change)

    def test_several_rise_by_numbers(self):
        change = GONE + MADE + MOVED + WRITTEN + MADE_FOLDER
        self.assertEqual([entry[0] for entry in change], [3, 4, 5, 7, 10])
        self.assertEqual(change_between(TREE, put_into(TREE, change)), change)

    def test_what_lies_in_a_moved_folder_is_the_same(self):
        self.assertEqual(change_between(TREE, put_into(TREE, MOVED)), MOVED)

    def test_kinds_of_what_is_told(self):
        change = change_between(TREE, put_into(TREE, GONE + MADE + WRITTEN))
        self.assertIs(type(change), tuple)
        for entry in change:
            self.assertIs(type(entry), tuple)
            self.assertEqual(len(entry), 3)
            for part in entry[1:]:
                self.assertIn(type(part), (tuple, type(None)))


class TurnedBack(unittest.TestCase):
    def test_old_for_new(self):
        self.assertEqual(turned_back(MADE), ((4, (9, "x", 3), None),))
        self.assertEqual(turned_back(GONE), ((3, None, (0, "b", 9)),))
        self.assertEqual(turned_back(GONE + MADE + WRITTEN), (
            (3, None, (0, "b", 9)), (4, (9, "x", 3), None), (7, (2, "z", 0), (2, "z", 8)),
        ))

    def test_twice(self):
        for change in CHANGES:
            self.assertEqual(turned_back(turned_back(change)), change)

    def test_empty(self):
        self.assertEqual(turned_back(()), ())


class Joined(unittest.TestCase):
    def test_in_one_alone(self):
        self.assertEqual(joined(MADE, ()), MADE)
        self.assertEqual(joined((), GONE), GONE)
        self.assertEqual(joined((), ()), ())
        self.assertEqual(joined(WRITTEN + MADE_FOLDER, GONE + MOVED), GONE + MOVED + WRITTEN + MADE_FOLDER)

    def test_in_both(self):
        self.assertEqual(joined(((3, (0, "b", 9), (0, "c", 9)),), ((3, (0, "c", 9), (0, "c", 5)),)),
                         RENAMED_AND_WRITTEN)
        self.assertEqual(joined(RENAMED, ((3, (0, "c", 9), None),)), GONE)
        self.assertEqual(joined(((4, None, (0, "y", 1)),), ((4, (0, "y", 1), (9, "x", 3)),)), MADE)
        self.assertEqual(joined(GONE, ((3, None, (2, "q", None)),)), ((3, (0, "b", 9), (2, "q", None)),))

    def test_in_one_in_the_other_and_in_both(self):
        one = GONE + WRITTEN
        other = ((3, None, (0, "b", 4)), (9, (0, "e", None), (5, "e", None)))
        self.assertEqual(joined(one, other), (
            (3, (0, "b", 9), (0, "b", 4)), (7, (2, "z", 8), (2, "z", 0)), (9, (0, "e", None), (5, "e", None)),
        ))

    def test_back_again_nothing_is_left(self):
        for change in CHANGES:
            self.assertEqual(joined(change, turned_back(change)), ())
            self.assertEqual(joined(turned_back(change), change), ())

    def test_only_those_that_are_the_same_are_left_out(self):
        self.assertEqual(joined(GONE + WRITTEN, turned_back(GONE)), WRITTEN)
        self.assertEqual(joined(MADE, turned_back(MADE) + MOVED), MOVED)

    def test_no_match(self):
        for one, other in (
            (RENAMED, RENAMED),
            (RENAMED, WRITTEN + RENAMED),
            (((3, (0, "b", 9), (0, "b", 5)),), ((3, (0, "b", 4), (0, "b", 9)),)),
            (((3, (0, "b", 9), (0, "c", 9)),), ((3, (2, "c", 9), (0, "b", 9)),)),
            (((3, (0, "b", 9), (0, "c", 9)),), ((3, (0, "d", 9), (0, "b", 9)),)),
            (((3, (0, "b", 9), (0, "b", None)),), ((3, (0, "b", 0), (0, "b", 9)),)),
            # None in the one of them alone: gone there and still here, made there and already here.
            (GONE, RENAMED),
            (GONE, GONE),
            (MADE, MADE),
            (RENAMED, turned_back(GONE)),
            (WRITTEN + MADE_FOLDER, GONE + MADE_FOLDER),
        ):
            with self.subTest(one=one, other=other):
                with self.assertRaises(TreeError) as caught:
                    joined(one, other)
                self.assertIs(type(caught.exception), NoMatch)


class Counted(unittest.TestCase):
    def test_each_kind(self):
        for change, told in (
            ((), (0, 0, 0, 0, 0)),
            (MADE, (1, 0, 0, 0, 0)),
            (MADE_FOLDER, (1, 0, 0, 0, 0)),
            (GONE, (0, 1, 0, 0, 0)),
            (GONE_FOLDER, (0, 2, 0, 0, 0)),
            (WRITTEN, (0, 0, 1, 0, 0)),
            (BECOME_FILE, (0, 0, 1, 0, 0)),
            (BECOME_FOLDER, (0, 0, 1, 0, 0)),
            (MOVED, (0, 0, 0, 1, 0)),
            (RENAMED, (0, 0, 0, 1, 0)),
            (MOVED_AND_RENAMED, (0, 0, 0, 1, 0)),
            (MOVED_AND_WRITTEN, (0, 0, 0, 0, 1)),
            (RENAMED_AND_WRITTEN, (0, 0, 0, 0, 1)),
        ):
            with self.subTest(change=change):
                self.assertEqual(counted(change), told)
                self.assertIs(type(counted(change)), tuple)

    def test_all_at_once(self):
        change = (
            (1, (0, "a", 1), None),
            (2, (0, "b", 1), None),
            (3, None, (0, "b", 1)),
            (4, (0, "c", 1), (0, "c", 2)),
            (5, (0, "d", 1), (0, "d", 2)),
            (6, (0, "e", 1), (0, "e", 2)),
            (7, (0, "f", 1), (0, "g", 2)),
            (8, (0, "h", 1), (3, "h", 1)),
            (9, (0, "i", 1), (3, "h", 1)),
            (10, (0, "j", 1), (3, "j", 2)),
            (11, (0, "k", 1), (3, "k", 2)),
            (12, (0, "l", 1), (3, "l", 1)),
            (13, (0, "m", 1), (3, "m", 1)),
            (14, (0, "n", 1), (3, "n", 2)),
            (15, (0, "o", 1), (3, "o", 2)),
        )
        self.assertEqual(counted(change), (1, 2, 3, 4, 5))
        self.assertEqual(counted(turned_back(change)), (2, 1, 3, 4, 5))


class Applied(unittest.TestCase):
    def refused(self, tree, change):
        with self.subTest(tree=tree, change=change):
            with self.assertRaises(TreeError) as caught:
                applied(tree, change)
            self.assertIs(type(caught.exception), NoMatch)

    def test_empty(self):
        self.assertEqual(applied(TREE, ()), TREE)
        self.assertEqual(applied((), ()), ())

    def test_there_and_back(self):
        for change in CHANGES:
            with self.subTest(change=change):
                behind = applied(TREE, change)
                self.assertEqual(behind, put_into(TREE, change))
                self.assertIs(is_tree(behind), True)
                self.assertEqual(applied(behind, turned_back(change)), TREE)

    def test_several_at_once(self):
        # Names and places that are free only when all is done.
        change = (
            (2, (0, "a", None), (9, "b", None)),
            (3, (0, "b", 9), (0, "e", 9)),
            (9, (0, "e", None), (0, "a", None)),
        )
        self.assertEqual(applied(TREE, change), put_into(TREE, change))
        swapped = ((2, (0, "a", None), (5, "b", None)), (5, (2, "b", None), (0, "a", None)))
        self.assertEqual(applied(TREE, swapped), put_into(TREE, swapped))

    def test_stamp_from_none_to_a_number(self):
        self.assertEqual(applied(TREE, BECOME_FILE), TREE[:5] + ((9, 0, "e", 4),))
        # The same for a folder that has nodes in it: they would be in a file.
        self.refused(TREE, ((2, (0, "a", None), (0, "a", 4)),))
        self.refused(TREE, ((5, (2, "b", None), (2, "b", 0)),))
        # None is not 0.
        self.refused(TREE, ((9, (0, "e", 0), (0, "e", 4)),))

    def test_there_and_should_not_be(self):
        self.refused(TREE, ((3, None, (0, "c", 9)),))
        self.refused(TREE, ((3, None, (0, "b", 9)),))

    def test_not_there_and_should_be(self):
        self.refused(TREE, ((4, (0, "x", 9), None),))
        self.refused(TREE, ((4, (0, "x", 9), (0, "y", 9)),))
        self.refused((), GONE)

    def test_not_as_old_tells(self):
        self.refused(TREE, ((3, (9, "b", 9), (0, "c", 9)),))
        self.refused(TREE, ((3, (0, "a", 9), (0, "c", 9)),))
        self.refused(TREE, ((3, (0, "b", 8), (0, "c", 9)),))
        self.refused(TREE, ((3, (0, "b", None), (0, "c", 9)),))
        self.refused(TREE, ((3, (0, "b", 8), None),))
        # One of two alone is not as told.
        self.refused(TREE, MOVED + ((7, (2, "z", 7), (2, "z", 0)),))
        self.refused(TREE, ((5, (2, "c", None), (9, "b", None)),) + WRITTEN)

    def test_once_more(self):
        for change in CHANGES[1:]:
            self.refused(applied(TREE, change), change)

    def test_name_twice(self):
        self.refused(TREE, ((4, None, (0, "b", 1)),))
        self.refused(TREE, ((3, (0, "b", 9), (0, "a", 9)),))
        self.refused(TREE, ((3, (0, "b", 9), (2, "z", 9)),))
        self.refused(TREE, ((4, None, (9, "x", 1)), (6, None, (9, "x", 1))))

    def test_parent_is_gone(self):
        self.refused(TREE, ((5, (2, "b", None), None),))
        self.refused(TREE, ((2, (0, "a", None), None),))
        self.refused(TREE, ((3, (0, "b", 9), (9, "b", 9)), (9, (0, "e", None), None)))

    def test_parent_is_no_node(self):
        self.refused(TREE, ((3, (0, "b", 9), (8, "b", 9)),))
        self.refused(TREE, ((4, None, (8, "b", 9)),))

    def test_parent_is_a_file(self):
        self.refused(TREE, ((9, (0, "e", None), (3, "e", None)),))
        self.refused(TREE, ((4, None, (3, "x", 1)),))

    def test_ring(self):
        self.refused(TREE, ((2, (0, "a", None), (5, "a", None)),))
        self.refused(TREE, ((9, (0, "e", None), (9, "e", None)),))
        self.refused(TREE, ((2, (0, "a", None), (9, "a", None)), (9, (0, "e", None), (2, "e", None))))

    def test_beyond_what_a_tree_may_have(self):
        self.refused(TREE, ((3, (0, "b", 9), (0, "b", 1000)),))
        self.refused(TREE, ((3, (0, "b", 9), (0, "abcdef", 9)),))
        self.refused(TREE, ((0, None, (0, "x", 9)),))


class ForAllTrees(unittest.TestCase):
    """What holds between any two and any three trees."""

    def between(self, one, other):
        change = change_between(one, other)
        mine, yours = dict((node[0], node[1:]) for node in one), dict((node[0], node[1:]) for node in other)
        told = [(number, mine.get(number), yours.get(number)) for number in sorted({**mine, **yours})]
        self.assertEqual(change, tuple(entry for entry in told if entry[1] != entry[2]))
        self.assertEqual(applied(one, change), other)
        self.assertEqual(turned_back(change), change_between(other, one))
        self.assertEqual(applied(other, turned_back(change)), one)
        self.assertEqual(sum(counted(change)), len(change))
        return change

    def over(self, one, middle, other):
        first, second = self.between(one, middle), self.between(middle, other)
        whole = joined(first, second)
        self.assertEqual(whole, change_between(one, other))
        self.assertEqual(turned_back(whole), joined(turned_back(second), turned_back(first)))

    def test_every_two_small_trees(self):
        trees = every_tree((1, 2), ("a", "b"), (None, 0, 5))
        for one in trees:
            for other in trees:
                self.between(one, other)

    def test_every_three_small_trees(self):
        trees = every_tree((1, 2), ("a", "b"), (None, 0))
        for one in trees:
            for middle in trees:
                for other in trees:
                    self.over(one, middle, other)

    def test_larger_trees(self):
        chance = random.Random(3)
        trees = [chance_tree(chance, tuple(range(1, 13)), "abc") for count in range(60)]
        for one, middle, other in zip(trees, trees[1:], trees[2:]):
            self.over(one, middle, other)

    def test_applied_where_it_does_not_belong(self):
        trees = every_tree((1, 2), ("a", "b"), (None, 0))
        changes = [change_between(one, other) for one in trees[::3] for other in trees]
        for tree in trees:
            for change in changes:
                nodes = {node[0]: node[1:] for node in tree}
                fits = all(nodes.get(number) == old for number, old, _ in change)
                if fits and is_tree(put_into(tree, change)):
                    self.assertEqual(applied(tree, change), put_into(tree, change))
                else:
                    with self.assertRaises(NoMatch):
                        applied(tree, change)


class HandedIn(unittest.TestCase):
    def test_stays_as_it_was(self):
        trees = (TREE, put_into(TREE, GONE + MADE + WRITTEN))
        before = copy.deepcopy(trees)
        change = change_between(*trees)
        whole = copy.deepcopy(change)
        applied(TREE, change)
        turned_back(change)
        joined(change, turned_back(change))
        counted(change)
        with self.assertRaises(NoMatch):
            joined(change, change)
        with self.assertRaises(NoMatch):
            applied(trees[1], change)
        self.assertEqual((trees, change), (before, whole))

import copy
import random
import unittest

from samples import chance_tree, every_tree
from treewatch.changes import change_between
from treewatch.deeds import done
from treewatch.ignoring import change_seen, is_quiet, seen
from treewatch.trees import is_tree, path_of

# a/       2
# a/b/     5
# a/b/d    1  (stamp 7)
# a/z      7  (stamp 8)
# b        3  (stamp 9)
# e/       9
# e/a      8  (stamp 0)
TREE = (
    (1, 5, "d", 7),
    (2, 0, "a", None),
    (3, 0, "b", 9),
    (5, 2, "b", None),
    (7, 2, "z", 8),
    (8, 9, "a", 0),
    (9, 0, "e", None),
)


class Seen(unittest.TestCase):
    def left(self, names, numbers):
        with self.subTest(names=names):
            told = seen(TREE, names)
            self.assertEqual(told, tuple(node for node in TREE if node[0] in numbers))
            self.assertIs(is_tree(told), True)

    def test_no_names(self):
        self.left([], [1, 2, 3, 5, 7, 8, 9])
        self.assertEqual(seen((), []), ())

    def test_of_a_file(self):
        self.left(["z"], [1, 2, 3, 5, 8, 9])
        self.left(["d"], [2, 3, 5, 7, 8, 9])

    def test_of_a_folder_with_all_below_it(self):
        self.left(["e"], [1, 2, 3, 5, 7])

    def test_of_nodes_at_several_places(self):
        self.left(["a"], [3, 9])
        self.left(["b"], [2, 7, 8, 9])

    def test_of_none(self):
        self.left(["q"], [1, 2, 3, 5, 7, 8, 9])
        self.left(["", "ab", "A", "abcdef"], [1, 2, 3, 5, 7, 8, 9])
        self.assertEqual(seen((), ["a"]), ())

    def test_several_names(self):
        self.left(["z", "e"], [1, 2, 3, 5])
        self.left(["a", "b"], [9])
        self.left(["e", "a", "b"], [])
        self.left(["z", "z", "q"], [1, 2, 3, 5, 8, 9])

    def test_a_name_is_not_a_part_of_one(self):
        tree = ((1, 0, "ab", None), (2, 1, "b", 5), (3, 1, "abc", 5))
        self.assertEqual(seen(tree, ["a"]), tree)
        self.assertEqual(seen(tree, ["abc"]), tree[:2])
        self.assertEqual(seen(tree, ["b"]), (tree[0], tree[2]))

    def test_deep_below_a_folder_that_is_left_out(self):
        tree = ((1, 4, "w", 5), (2, 0, "x", None), (3, 2, "y", None), (4, 3, "z", None))
        self.assertEqual(seen(tree, ["x"]), ())
        self.assertEqual(seen(tree, ["y"]), (tree[1],))
        self.assertEqual(seen(tree, ["z"]), tree[1:3])

    def test_deeper_than_a_recursion_may_go(self):
        chain = tuple((number, number - 1, "a", None) for number in range(1, 3001))
        chain += ((3001, 3000, "b", 5),)
        self.assertEqual(seen(chain, ["b"]), chain[:-1])
        self.assertEqual(seen(chain, ["a"]), ())


class Changes(unittest.TestCase):
    def quiet(self, other, names):
        self.assertEqual(change_seen(TREE, other, names), ())
        self.assertIs(is_quiet(TREE, other, names), True)

    def loud(self, other, names, change):
        self.assertEqual(change_seen(TREE, other, names), change)
        self.assertIs(is_quiet(TREE, other, names), False)

    def test_the_same(self):
        for names in ([], ["a"], ["q"], ["a", "b", "e"]):
            self.quiet(TREE, names)

    def test_of_what_is_seen(self):
        other = done(TREE, ("write", 3, 4))
        self.loud(other, [], ((3, (0, "b", 9), (0, "b", 4)),))
        self.loud(other, ["a"], ((3, (0, "b", 9), (0, "b", 4)),))
        other = done(TREE, ("drop", 2))
        self.loud(other, ["b"], ((2, (0, "a", None), None), (7, (2, "z", 8), None)))

    def test_of_what_is_not_seen(self):
        self.quiet(done(TREE, ("write", 1, 4)), ["a"])
        self.quiet(done(TREE, ("write", 1, 4)), ["b"])
        self.quiet(done(TREE, ("drop", 2)), ["a"])
        self.quiet(done(TREE, ("move", 1, 2, "d")), ["a"])
        self.quiet(done(TREE, ("make", 4, 2, "x", 5)), ["a"])
        self.quiet(done(TREE, ("make", 4, 0, "q", None)), ["q"])
        # From one place that is not seen to another.
        self.quiet(done(TREE, ("move", 7, 9, "b")), ["a", "b"])

    def test_of_both(self):
        other = done(done(TREE, ("write", 3, 4)), ("write", 7, 4))
        self.loud(other, ["a"], ((3, (0, "b", 9), (0, "b", 4)),))
        self.loud(other, ["b"], ((7, (2, "z", 8), (2, "z", 4)),))
        self.quiet(other, ["a", "b"])

    def test_moved_out_of_what_is_not_seen(self):
        other = done(TREE, ("move", 7, 9, "z"))
        self.loud(other, ["a"], ((7, None, (9, "z", 8)),))
        self.loud(other, ["e"], ((7, (2, "z", 8), None),))
        self.loud(other, [], ((7, (2, "z", 8), (9, "z", 8)),))
        self.quiet(other, ["z"])

    def test_moved_out_with_all_below_it(self):
        other = done(TREE, ("move", 5, 9, "x"))
        self.loud(other, ["a"], ((1, None, (5, "d", 7)), (5, None, (9, "x", None))))
        self.loud(other, ["b"], ((1, None, (5, "d", 7)), (5, None, (9, "x", None))))

    def test_a_folder_renamed_to_a_name_left_out(self):
        other = done(TREE, ("move", 9, 0, "q"))
        self.loud(other, ["q"], ((8, (9, "a", 0), None), (9, (0, "e", None), None)))
        self.loud(other, ["e"], ((8, None, (9, "a", 0)), (9, None, (0, "q", None))))

    def test_empty_trees(self):
        self.assertEqual(change_seen((), (), ["a"]), ())
        self.assertIs(is_quiet((), (), ["a"]), True)
        self.assertIs(is_quiet((), TREE, ["a", "b", "e"]), True)
        self.assertIs(is_quiet((), TREE, ["a", "b"]), False)


class ForManyTrees(unittest.TestCase):
    def seen_by_paths(self, tree, names):
        return tuple(node for node in tree if not set(path_of(tree, node[0])) & set(names))

    def check(self, one, other, names):
        mine, yours = self.seen_by_paths(one, names), self.seen_by_paths(other, names)
        self.assertEqual((seen(one, names), seen(other, names)), (mine, yours))
        self.assertTrue(is_tree(mine) and is_tree(yours))
        self.assertEqual(change_seen(one, other, names), change_between(mine, yours))
        self.assertIs(is_quiet(one, other, names), mine == yours)

    def test_every_two_small_trees(self):
        trees = every_tree((1, 2), ("a", "b"), (None, 5))
        for one in trees:
            for other in trees:
                for names in ([], ["a"], ["b"], ["a", "b"]):
                    self.check(one, other, names)

    def test_larger_trees(self):
        chance = random.Random(7)
        trees = [chance_tree(chance, tuple(range(1, 16)), "abcdef") for count in range(100)]
        for one, other in zip(trees, trees[1:]):
            self.check(one, other, chance.sample("abcdef", chance.randrange(4)))


class HandedIn(unittest.TestCase):
    def test_stays_as_it_was(self):
        tree, names = copy.deepcopy(TREE), ["z", "a", "q", "a"]
        before = list(names)
        seen(tree, names)
        change_seen(tree, done(tree, ("drop", 9)), names)
        is_quiet(tree, (), names)
        self.assertEqual((tree, names), (TREE, before))

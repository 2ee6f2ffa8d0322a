import copy
import random
import unittest

from samples import chance_tree, every_tree
from treewatch.guessing import known_again, renumbered
from treewatch.trees import is_tree, walked

# a/       2
# a/b/     5
# a/b/d    1  (stamp 7)
# a/z      7  (stamp 8)
# b        3  (stamp 9)
# e/       9, empty
TREE = (
    (1, 5, "d", 7),
    (2, 0, "a", None),
    (3, 0, "b", 9),
    (5, 2, "b", None),
    (7, 2, "z", 8),
    (9, 0, "e", None),
)
# The same paths, kinds and stamps by other numbers.
OTHERWISE = (
    (2, 0, "b", 9),
    (3, 8, "b", None),
    (4, 0, "e", None),
    (6, 3, "d", 7),
    (8, 0, "a", None),
    (20, 8, "z", 8),
)
OTHERWISE_KNOWN = [(1, 6), (2, 8), (3, 2), (5, 3), (7, 20), (9, 4)]


def told_plainly(tree):
    nodes = {node[0]: node for node in tree}
    return [(path, nodes[number][3]) for path, number in walked(tree)]


def known_in_turn(old, new):
    """The rule once more, word by word."""
    olds, news = {node[0]: node for node in old}, {node[0]: node for node in new}
    known, taken = {}, []
    for path, number in walked(old):
        for there, other in walked(new):
            if path == there and (olds[number][3] is None) == (news[other][3] is None):
                known[number] = other
                taken.append(other)
    for _, number in walked(old):
        if number in known or olds[number][3] is None:
            continue
        for _, other in walked(new):
            if other not in taken and news[other][3] is not None and news[other][3] == olds[number][3]:
                known[number] = other
                taken.append(other)
                break
    return sorted(known.items())


def renumbered_in_turn(old, new):
    numbers = {other: number for number, other in known_in_turn(old, new)}
    greatest = max([node[0] for node in old] + [0])
    for _, number in walked(new):
        if number not in numbers:
            greatest += 1
            numbers[number] = greatest
    numbers[0] = 0
    return tuple(sorted((numbers[node[0]], numbers[node[1]], node[2], node[3]) for node in new))


def pairs_by_chance():
    chance = random.Random(7)
    for _ in range(300):
        old = chance_tree(chance, tuple(range(1, 15)), ("a", "b", "ab"))
        new = chance_tree(chance, tuple(range(4, 20)), ("a", "b", "ab"))
        yield old, new


class KnownAgain(unittest.TestCase):
    def test_without_nodes(self):
        self.assertEqual(known_again((), ()), [])
        self.assertEqual(known_again(TREE, ()), [])
        self.assertEqual(known_again((), TREE), [])

    def test_the_same_tree(self):
        self.assertEqual(known_again(TREE, TREE), [(node[0], node[0]) for node in TREE])

    def test_the_same_tree_numbered_otherwise(self):
        self.assertEqual(known_again(TREE, OTHERWISE), OTHERWISE_KNOWN)
        self.assertEqual(known_again(OTHERWISE, TREE), sorted((new, old) for old, new in OTHERWISE_KNOWN))

    def test_numbers_that_are_alike_do_not_matter(self):
        self.assertEqual(known_again(((1, 0, "a", None),), ((1, 0, "b", None),)), [])
        self.assertEqual(known_again(((1, 0, "a", 5),), ((1, 0, "b", 6),)), [])

    def test_a_path_that_is_a_folder_here_and_a_file_there(self):
        self.assertEqual(known_again(((1, 0, "a", None),), ((2, 0, "a", 5),)), [])
        self.assertEqual(known_again(((1, 0, "a", 5),), ((2, 0, "a", None),)), [])
        self.assertEqual(known_again(((1, 0, "a", 0),), ((2, 0, "a", None),)), [])
        self.assertEqual(known_again(((1, 0, "a", None),), ((2, 0, "a", 0),)), [])

    def test_such_a_file_is_known_by_its_stamp(self):
        old = ((1, 0, "a", 5), (2, 0, "b", None))
        new = ((3, 0, "a", None), (4, 3, "a", 5))
        self.assertEqual(known_again(old, new), [(1, 4)])
        self.assertEqual(known_again(new, old), [(4, 1)])

    def test_by_path_with_another_stamp(self):
        self.assertEqual(known_again(((1, 0, "a", 5),), ((2, 0, "a", 6),)), [(1, 2)])
        self.assertEqual(known_again(((1, 0, "a", 0),), ((2, 0, "a", 999),)), [(1, 2)])

    def test_the_whole_path_is_asked(self):
        old = ((1, 0, "a", None), (2, 1, "x", 5))
        new = ((3, 0, "b", None), (4, 3, "x", 6))
        self.assertEqual(known_again(old, new), [])
        self.assertEqual(known_again(((1, 0, "x", 5),), new), [])

    def test_renamed(self):
        self.assertEqual(known_again(((1, 0, "a", 5),), ((2, 0, "b", 5),)), [(1, 2)])
        self.assertEqual(known_again(((1, 0, "a", 0),), ((2, 0, "b", 0),)), [(1, 2)])

    def test_moved(self):
        old = ((1, 0, "a", None), (2, 1, "x", 5), (3, 0, "b", None))
        new = ((4, 0, "a", None), (5, 0, "b", None), (6, 5, "y", 5))
        self.assertEqual(known_again(old, new), [(1, 4), (2, 6), (3, 5)])

    def test_moved_with_its_folder(self):
        old = ((1, 0, "a", None), (2, 1, "x", 5), (3, 1, "y", 6))
        new = ((1, 0, "b", None), (2, 1, "x", 6), (3, 1, "y", 5))
        self.assertEqual(known_again(old, new), [(2, 3), (3, 2)])

    def test_several_of_one_stamp_go_by_their_paths(self):
        old = ((1, 0, "c", 5), (2, 0, "b", 5), (3, 0, "a", 5))
        new = ((4, 0, "y", 5), (5, 0, "z", 5), (6, 0, "x", 5))
        self.assertEqual(known_again(old, new), [(1, 5), (2, 4), (3, 6)])

    def test_more_in_old(self):
        old = ((1, 0, "c", 5), (2, 0, "b", 5), (3, 0, "a", 5))
        self.assertEqual(known_again(old, ((4, 0, "y", 5),)), [(3, 4)])
        self.assertEqual(known_again(old, ((4, 0, "y", 5), (5, 0, "x", 5))), [(2, 4), (3, 5)])

    def test_more_in_new(self):
        new = ((4, 0, "y", 5), (5, 0, "z", 5), (6, 0, "x", 5))
        self.assertEqual(known_again(((1, 0, "a", 5),), new), [(1, 6)])
        self.assertEqual(known_again(((1, 0, "b", 5), (2, 0, "a", 5)), new), [(1, 4), (2, 6)])

    def test_paths_are_names_one_by_one(self):
        # By paths a/z comes ahead of ab, though its file lies deeper.
        old = ((1, 0, "ab", 5), (2, 0, "a", None), (3, 2, "z", 5))
        self.assertEqual(known_again(old, ((4, 0, "q", 5),)), [(3, 4)])
        self.assertEqual(known_again(((4, 0, "q", 5),), old), [(4, 3)])

    def test_one_known_by_its_path_is_not_taken_by_its_stamp(self):
        old = ((1, 0, "a", 5), (2, 0, "b", 5))
        self.assertEqual(known_again(old, ((3, 0, "b", 5),)), [(2, 3)])
        self.assertEqual(known_again(((3, 0, "b", 5),), old), [(3, 2)])
        self.assertEqual(known_again(old, ((3, 0, "b", 5), (4, 0, "c", 5))), [(1, 4), (2, 3)])
        # Nor by the stamp that it had ahead.
        self.assertEqual(known_again(((1, 0, "a", 5),), ((2, 0, "a", 6), (3, 0, "b", 5))), [(1, 2)])
        self.assertEqual(known_again(((1, 0, "a", 5), (2, 0, "b", 6)), ((3, 0, "a", 6),)), [(1, 3)])

    def test_folders_are_known_by_their_paths_alone(self):
        self.assertEqual(known_again(((1, 0, "a", None),), ((2, 0, "b", None),)), [])
        old = ((1, 0, "a", None), (2, 1, "x", 5))
        new = ((1, 0, "b", None), (2, 1, "x", 5))
        self.assertEqual(known_again(old, new), [(2, 2)])

    def test_couples_rise(self):
        old = ((1, 0, "z", 5), (2, 0, "a", None), (3, 2, "b", 6), (4, 0, "k", 7))
        new = ((1, 0, "q", 7), (2, 0, "z", 1), (3, 0, "a", None), (4, 0, "b", 6))
        self.assertEqual(known_again(old, new), [(1, 2), (2, 3), (3, 4), (4, 1)])

    def test_kinds_of_what_is_told(self):
        told = known_again(TREE, OTHERWISE)
        self.assertIs(type(told), list)
        self.assertEqual({type(couple) for couple in told}, {tuple})

    def test_every_pair_of_small_trees(self):
        trees = every_tree((1, 2), ("a", "b"), (None, 0, 4))
        for old in trees:
            for new in trees:
                self.assertEqual(known_again(old, new), known_in_turn(old, new), (old, new))

    def test_larger_trees(self):
        for old, new in pairs_by_chance():
            self.assertEqual(known_again(old, new), known_in_turn(old, new), (old, new))

    def test_what_is_told_is_new(self):
        told = known_again(TREE, OTHERWISE)
        told.clear()
        self.assertEqual(known_again(TREE, OTHERWISE), OTHERWISE_KNOWN)


class Renumbered(unittest.TestCase):
    def test_without_nodes(self):
        self.assertEqual(renumbered((), ()), ())
        self.assertEqual(renumbered(TREE, ()), ())

    def test_old_without_nodes(self):
        self.assertEqual(renumbered((), TREE), (
            (1, 0, "a", None), (2, 1, "b", None), (3, 2, "d", 7), (4, 1, "z", 8), (5, 0, "b", 9), (6, 0, "e", None),
        ))

    def test_the_same_tree(self):
        self.assertEqual(renumbered(TREE, TREE), TREE)
        self.assertEqual(renumbered(TREE, OTHERWISE), TREE)
        self.assertEqual(renumbered(OTHERWISE, TREE), OTHERWISE)

    def test_known_and_others(self):
        old = ((2, 0, "a", None), (7, 2, "x", 5))
        new = ((1, 3, "c", 9), (2, 3, "b", 8), (3, 0, "a", None), (4, 0, "y", 5))
        self.assertEqual(renumbered(old, new), (
            (2, 0, "a", None), (7, 0, "y", 5), (8, 2, "b", 8), (9, 2, "c", 9),
        ))

    def test_others_go_by_paths_and_not_by_numbers(self):
        new = ((1, 0, "c", 1), (2, 0, "b", 2), (3, 0, "a", 3))
        self.assertEqual(renumbered(((5, 0, "q", None),), new), ((6, 0, "a", 3), (7, 0, "b", 2), (8, 0, "c", 1)))
        deep = ((1, 0, "ab", 1), (2, 3, "z", 2), (3, 0, "a", None))
        self.assertEqual(renumbered((), deep), ((1, 0, "a", None), (2, 1, "z", 2), (3, 0, "ab", 1)))

    def test_from_the_greatest_of_old_though_it_is_not_known(self):
        old = ((1, 0, "a", 5), (40, 0, "b", None))
        new = ((1, 0, "a", 5), (2, 0, "c", None), (90, 0, "d", None))
        self.assertEqual(renumbered(old, new), ((1, 0, "a", 5), (41, 0, "c", None), (42, 0, "d", None)))

    def test_gaps_in_old_are_not_filled(self):
        old = ((3, 0, "a", None), (9, 0, "b", None))
        new = ((1, 0, "b", None), (2, 1, "x", 0))
        self.assertEqual(renumbered(old, new), ((9, 0, "b", None), (10, 9, "x", 0)))

    def test_parents_that_got_other_numbers(self):
        old = ((4, 0, "a", None),)
        new = ((1, 0, "a", None), (2, 3, "c", 6), (3, 1, "b", None), (4, 3, "d", None))
        self.assertEqual(renumbered(old, new), (
            (4, 0, "a", None), (5, 4, "b", None), (6, 5, "c", 6), (7, 5, "d", None),
        ))

    def test_a_parent_with_a_greater_number(self):
        old = ((1, 0, "x", 5),)
        new = ((1, 0, "b", None), (2, 1, "x", 5))
        self.assertEqual(renumbered(old, new), ((1, 2, "x", 5), (2, 0, "b", None)))

    def holds(self, old, new):
        told = renumbered(old, new)
        self.assertIs(is_tree(told), True, (old, new))
        self.assertEqual(told_plainly(told), told_plainly(new), (old, new))
        self.assertEqual(told, renumbered_in_turn(old, new), (old, new))
        self.assertEqual(renumbered(old, told), told, (old, new))

    def test_every_pair_of_small_trees(self):
        trees = every_tree((1, 2), ("a", "b"), (None, 0, 4))
        for old in trees:
            for new in trees:
                self.holds(old, new)

    def test_larger_trees(self):
        for old, new in pairs_by_chance():
            self.holds(old, new)

    def test_deeper_than_a_recursion_may_go(self):
        chain = tuple((number, number - 1, "a", None) for number in range(1, 1501))
        turned = tuple((number, (number + 1) % 1501, "a", None) for number in range(1, 1501))
        self.assertEqual(renumbered(chain, turned), chain)

    def test_what_is_handed_in_stays(self):
        old, new = copy.deepcopy(TREE), copy.deepcopy(OTHERWISE)
        known_again(old, new)
        renumbered(old, new)
        self.assertEqual((old, new), (TREE, OTHERWISE))

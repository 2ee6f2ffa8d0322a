import copy
import itertools
import random
import string
import unittest

from samples import chance_tree, every_tree
from treewatch.deeds import all_done, done
from treewatch.errors import NoMatch, TreeError
from treewatch.steps import in_steps
from treewatch.trees import is_tree


class Steps(unittest.TestCase):
    def leads(self, old, new, deeds):
        self.assertTrue(is_tree(old) and is_tree(new), "the case itself is wrong")
        told = in_steps(old, new)
        self.assertEqual(told, deeds)
        self.assertIs(type(told), list)
        self.assertEqual(all_done(old, told), new)


class Same(Steps):
    def test_no_deeds(self):
        self.leads((), (), [])
        tree = ((1, 2, "a", 5), (2, 0, "b", None), (3, 0, "a", 7))
        self.leads(tree, tree, [])


class Drops(Steps):
    def test_file(self):
        self.leads(((1, 0, "a", 5), (2, 0, "b", 5)), ((1, 0, "a", 5),), [("drop", 2)])

    def test_folder_with_nodes_in_it_is_one_deed(self):
        old = ((1, 4, "a", 5), (2, 4, "b", None), (3, 2, "a", None), (4, 0, "a", None), (5, 0, "b", 1))
        self.leads(old, ((5, 0, "b", 1),), [("drop", 4)])
        self.leads(old, ((4, 0, "a", None), (5, 0, "b", 1)), [("drop", 1), ("drop", 2)])
        self.leads(old, (), [("drop", 4), ("drop", 5)])

    def test_by_numbers(self):
        old = ((1, 3, "a", 5), (2, 0, "b", None), (3, 0, "a", None), (4, 2, "b", 1))
        self.leads(old, (), [("drop", 2), ("drop", 3)])
        self.leads(old, ((2, 0, "b", None), (3, 0, "a", None)), [("drop", 1), ("drop", 4)])

    def test_gone_in_a_folder_that_is_moved(self):
        old = ((1, 0, "a", None), (2, 1, "a", 5), (3, 0, "b", None))
        self.leads(old, ((1, 3, "a", None), (3, 0, "b", None)), [("drop", 2), ("move", 1, 3, "a")])

    def test_gone_folder_that_holds_a_node_which_stays(self):
        old = ((1, 0, "a", None), (2, 1, "x", 5), (3, 1, "y", 6))
        self.leads(old, ((2, 0, "x", 5),), [("move", 2, 0, "x"), ("drop", 1)])

    def test_gone_folder_that_holds_such_a_node_deep_in_it(self):
        old = ((1, 0, "a", None), (2, 1, "b", None), (3, 2, "c", None), (4, 3, "d", 5), (5, 1, "e", 6))
        self.leads(old, ((4, 0, "d", 5),), [("move", 4, 0, "d"), ("drop", 1)])

    def test_gone_in_a_gone_folder_that_can_not_be_dropped_yet(self):
        # 3 alone could be dropped at once; but its parent is no more in the new tree.
        old = ((1, 0, "a", None), (2, 1, "x", None), (3, 1, "y", 6), (4, 2, "z", 7))
        self.leads(old, ((2, 0, "x", None),), [("drop", 4), ("move", 2, 0, "x"), ("drop", 1)])

    def test_gone_folder_in_one_that_is_gone_too(self):
        # 1 holds 2, which holds 3, which stays: when 3 is out, 1 goes with all in it.
        old = ((1, 0, "a", None), (2, 1, "b", None), (3, 2, "c", None), (4, 3, "d", 5), (5, 0, "e", None))
        new = ((3, 5, "c", None), (4, 3, "d", 5), (5, 0, "e", None))
        self.leads(old, new, [("move", 3, 5, "c"), ("drop", 1)])

    def test_a_drop_comes_as_soon_as_it_may(self):
        # Each move lets a folder go, and this goes ahead of the next move.
        old = ((1, 0, "a", None), (2, 0, "b", None), (3, 1, "x", 5), (4, 2, "y", 6))
        new = ((3, 0, "x", 5), (4, 0, "y", 6))
        self.leads(old, new, [("move", 3, 0, "x"), ("drop", 1), ("move", 4, 0, "y"), ("drop", 2)])

    def test_ahead_of_makes_and_writes(self):
        old = ((2, 0, "a", 5), (3, 0, "b", 6))
        new = ((1, 0, "b", 6), (2, 0, "a", 7))
        self.leads(old, new, [("drop", 3), ("make", 1, 0, "b", 6), ("write", 2, 7)])

    def test_a_name_is_free_when_its_folder_is_gone(self):
        # 3 is to be called as the gone folder 1 that it lies in.
        old = ((1, 0, "a", None), (2, 0, "b", None), (3, 1, "a", 5))
        new = ((2, 0, "b", None), (3, 0, "a", 5))
        self.leads(old, new, [("move", 3, 0, "c"), ("drop", 1), ("move", 3, 0, "a")])


class Makes(Steps):
    def test_by_numbers(self):
        new = ((1, 0, "b", 5), (2, 0, "a", None), (3, 2, "a", None), (4, 3, "a", 0))
        self.leads((), new, [("make",) + node for node in new])

    def test_parent_is_made_later_by_number(self):
        new = ((1, 2, "a", 5), (2, 4, "b", None), (3, 0, "x", 1), (4, 0, "c", None))
        self.leads((), new, [
            ("make", 3, 0, "x", 1), ("make", 4, 0, "c", None), ("make", 2, 4, "b", None), ("make", 1, 2, "a", 5),
        ])

    def test_as_soon_as_the_parent_is_there_the_least_is_next(self):
        new = ((1, 3, "a", 5), (2, 3, "b", None), (3, 0, "c", None), (4, 0, "d", None))
        self.leads((), new, [
            ("make", 3, 0, "c", None), ("make", 1, 3, "a", 5), ("make", 2, 3, "b", None), ("make", 4, 0, "d", None),
        ])

    def test_in_a_folder_that_is_still_to_be_moved(self):
        old = ((3, 0, "a", None), (4, 0, "b", None))
        new = ((1, 3, "x", 5), (3, 4, "a", None), (4, 0, "b", None))
        self.leads(old, new, [("make", 1, 3, "x", 5), ("move", 3, 4, "a")])

    def test_a_name_that_is_not_free_yet(self):
        old = ((2, 0, "a", 5),)
        new = ((1, 0, "a", 6), (2, 0, "b", 5))
        self.leads(old, new, [("move", 2, 0, "b"), ("make", 1, 0, "a", 6)])

    def test_a_folder_where_a_file_was_of_another_number(self):
        old = ((2, 0, "a", 5),)
        new = ((1, 3, "a", 6), (3, 0, "a", None))
        self.leads(old, new, [("drop", 2), ("make", 3, 0, "a", None), ("make", 1, 3, "a", 6)])


class Moves(Steps):
    def test_renamed_and_moved(self):
        old = ((1, 0, "a", None), (2, 0, "b", 5))
        self.leads(old, ((1, 0, "a", None), (2, 0, "c", 5)), [("move", 2, 0, "c")])
        self.leads(old, ((1, 0, "a", None), (2, 1, "b", 5)), [("move", 2, 1, "b")])
        self.leads(old, ((1, 0, "a", None), (2, 1, "c", 5)), [("move", 2, 1, "c")])

    def test_what_lies_in_a_moved_folder_is_not_touched(self):
        old = ((1, 0, "a", None), (2, 1, "b", 5), (3, 0, "c", None))
        self.leads(old, ((1, 3, "z", None), (2, 1, "b", 5), (3, 0, "c", None)), [("move", 1, 3, "z")])

    def test_the_least_that_may_be_moved(self):
        # 1 waits for 2, which waits for 3.
        old = ((1, 0, "a", 1), (2, 0, "b", 2), (3, 0, "c", 3))
        new = ((1, 0, "b", 1), (2, 0, "c", 2), (3, 0, "d", 3))
        self.leads(old, new, [("move", 3, 0, "d"), ("move", 2, 0, "c"), ("move", 1, 0, "b")])

    def test_into_a_folder_that_is_made(self):
        old = ((1, 0, "a", 5),)
        new = ((1, 2, "a", 5), (2, 0, "a", None))
        # The new folder has the name that the file still has, and the file is to be in the folder.
        self.leads(old, new, [("move", 1, 0, "b"), ("make", 2, 0, "a", None), ("move", 1, 2, "a")])


class Asides(Steps):
    def test_two_that_are_to_have_each_others_names(self):
        old = ((1, 0, "a", 1), (2, 0, "b", 2))
        new = ((1, 0, "b", 1), (2, 0, "a", 2))
        self.leads(old, new, [("move", 1, 0, "c"), ("move", 2, 0, "a"), ("move", 1, 0, "b")])

    def test_two_such_in_a_folder(self):
        # At the top only f has a name, so the first free one is a.
        old = ((1, 9, "a", 1), (2, 9, "b", 2), (9, 0, "f", None))
        new = ((1, 9, "b", 1), (2, 9, "a", 2), (9, 0, "f", None))
        self.leads(old, new, [("move", 1, 0, "a"), ("move", 2, 9, "a"), ("move", 1, 9, "b")])

    def test_three_in_a_ring(self):
        old = ((1, 0, "a", 1), (2, 0, "b", 2), (3, 0, "c", 3))
        new = ((1, 0, "b", 1), (2, 0, "c", 2), (3, 0, "a", 3))
        self.leads(old, new, [("move", 1, 0, "d"), ("move", 3, 0, "a"), ("move", 2, 0, "c"), ("move", 1, 0, "b")])

    def test_two_rings(self):
        old = ((1, 0, "a", 1), (2, 0, "b", 2), (3, 0, "c", 3), (4, 0, "d", 4))
        new = ((1, 0, "b", 1), (2, 0, "a", 2), (3, 0, "d", 3), (4, 0, "c", 4))
        self.leads(old, new, [
            ("move", 1, 0, "e"), ("move", 2, 0, "a"), ("move", 1, 0, "b"),
            ("move", 3, 0, "e"), ("move", 4, 0, "c"), ("move", 3, 0, "d"),
        ])

    def test_a_ring_within_a_folder_and_one_at_the_top(self):
        old = ((1, 4, "x", 1), (2, 0, "a", 2), (3, 0, "b", 3), (4, 0, "y", None), (5, 4, "z", 5))
        new = ((1, 4, "z", 1), (2, 0, "b", 2), (3, 0, "a", 3), (4, 0, "y", None), (5, 4, "x", 5))
        self.leads(old, new, [
            ("move", 1, 0, "c"), ("move", 5, 4, "x"), ("move", 1, 4, "z"),
            ("move", 2, 0, "c"), ("move", 3, 0, "a"), ("move", 2, 0, "b"),
        ])

    def test_a_second_one_is_moved_aside_while_the_first_stands_there(self):
        # With 1 aside, 1 still waits for the place of 3, 2 can't go into 3 below it, and 3 waits for that of 2.
        old = ((1, 3, "a", 5), (2, 0, "x", None), (3, 2, "p", None))
        new = ((1, 2, "p", 5), (2, 3, "a", None), (3, 0, "x", None))
        self.leads(old, new, [
            ("move", 1, 0, "a"), ("move", 2, 0, "b"), ("move", 3, 0, "x"), ("move", 1, 2, "p"), ("move", 2, 3, "a"),
        ])

    def test_what_stands_aside_may_wait_for_drops(self):
        old = ((1, 0, "a", None), (2, 1, "b", None), (3, 2, "c", 5), (4, 0, "b", 6))
        new = ((2, 0, "a", None), (3, 2, "c", 5), (4, 2, "b", 6))
        self.leads(old, new, [("move", 4, 2, "b"), ("move", 2, 0, "b"), ("drop", 1), ("move", 2, 0, "a")])

    def test_a_folder_into_one_that_is_below_it(self):
        old = ((1, 0, "a", None), (2, 1, "b", None))
        new = ((1, 2, "b", None), (2, 0, "a", None))
        # 1 can't go into 2, which is below it, nor 2 to the top, where 1 has the name.
        self.leads(old, new, [("move", 1, 0, "b"), ("move", 2, 0, "a"), ("move", 1, 2, "b")])

    def test_a_folder_into_one_below_it_that_goes_first(self):
        old = ((1, 0, "a", None), (2, 1, "b", None))
        new = ((1, 2, "a", None), (2, 0, "b", None))
        self.leads(old, new, [("move", 2, 0, "b"), ("move", 1, 2, "a")])

    def test_a_folder_deep_into_itself(self):
        old = ((1, 0, "a", None), (2, 1, "b", None), (3, 2, "c", None))
        new = ((1, 3, "a", None), (2, 1, "b", None), (3, 0, "a", None))
        self.leads(old, new, [("move", 1, 0, "b"), ("move", 3, 0, "a"), ("move", 1, 3, "a")])

    def test_one_that_is_not_there_is_not_moved_aside(self):
        # 1 is to be made, but its place is not free: 2 is the first that is there.
        old = ((2, 0, "a", 2), (3, 0, "b", 3))
        new = ((1, 4, "x", 1), (2, 0, "b", 2), (3, 0, "c", 3), (4, 0, "a", None))
        self.leads(old, new, [
            ("move", 3, 0, "c"), ("move", 2, 0, "b"), ("make", 4, 0, "a", None), ("make", 1, 4, "x", 1),
        ])
        new = ((1, 4, "x", 1), (2, 0, "b", 2), (3, 4, "a", 3), (4, 0, "a", None))
        self.leads(old, new, [
            ("move", 2, 0, "c"), ("make", 4, 0, "a", None), ("make", 1, 4, "x", 1), ("move", 3, 4, "a"),
            ("move", 2, 0, "b"),
        ])


def swapped(extra):
    """A folder in which two files are to have each other's names, and what else is at the top in each tree."""
    old = ((1, 9, "p", 1), (2, 9, "q", 2), (9, 0, "zzzzz", None))
    new = ((1, 9, "q", 1), (2, 9, "p", 2), (9, 0, "zzzzz", None))
    return old + extra, new + extra


class NamesAside(Steps):
    def aside(self, old, new):
        """The name by which the node 1, which is not to be at the top, is moved to the top."""
        self.assertTrue(is_tree(old) and is_tree(new), "the case itself is wrong")
        told = in_steps(old, new)
        self.assertEqual(all_done(old, told), new)
        names = [deed[3] for deed in told if deed[:3] == ("move", 1, 0)]
        self.assertEqual(len(names), 1)
        return names[0]

    def top(self, names):
        return tuple((number, 0, name, 0) for number, name in enumerate(names, start=10))

    def test_a(self):
        self.assertEqual(self.aside(*swapped(())), "a")

    def test_taken_at_the_top(self):
        self.assertEqual(self.aside(*swapped(self.top("a"))), "b")
        self.assertEqual(self.aside(*swapped(self.top("abd"))), "c")
        self.assertEqual(self.aside(*swapped(self.top("bc"))), "a")

    def test_names_elsewhere_do_not_matter(self):
        self.assertEqual(self.aside(*swapped(((10, 9, "a", 0),))), "a")

    def test_will_be_taken_at_the_top(self):
        old, new = swapped(())
        self.assertEqual(self.aside(old + ((10, 0, "x", 3),), new + ((10, 0, "a", 3),)), "b")
        self.assertEqual(self.aside(old, new + ((10, 0, "a", 3),)), "b")
        self.assertEqual(self.aside(old + ((10, 9, "a", 3),), new + ((10, 0, "a", 3),)), "b")

    def test_was_taken_at_the_top(self):
        old, new = swapped(())
        self.assertEqual(self.aside(old + ((10, 0, "a", 3),), new + ((10, 0, "x", 3),)), "a")
        self.assertEqual(self.aside(old + ((10, 0, "a", 3),), new), "a")

    def test_taken_both_now_and_then_by_others(self):
        # 10 and 11 are to have each other's names as well: both are taken before and behind.
        old, new = swapped(())
        names = ((10, 0, "a", 3), (11, 0, "b", 3)), ((10, 0, "b", 3), (11, 0, "a", 3))
        self.assertEqual(self.aside(old + names[0], new + names[1]), "c")

    def test_own_name_at_the_top(self):
        # 1 has the name a itself, and 2 is to have it.
        old = ((1, 0, "a", 1), (2, 3, "b", 2), (3, 0, "x", None))
        new = ((1, 3, "b", 1), (2, 0, "a", 2), (3, 0, "x", None))
        self.assertEqual(self.aside(old, new), "b")

    def test_all_of_one_letter(self):
        self.assertEqual(self.aside(*swapped(self.top(string.ascii_lowercase))), "aa")
        self.assertEqual(self.aside(*swapped(self.top(string.ascii_lowercase[:-1]))), "z")
        self.assertEqual(self.aside(*swapped(self.top(list(string.ascii_lowercase) + ["aa", "ab", "ba"]))), "ac")

    def test_all_of_two_letters(self):
        names = list(string.ascii_lowercase) + [one + other for one in string.ascii_lowercase
                                                for other in string.ascii_lowercase]
        self.assertEqual(self.aside(*swapped(self.top(names))), "aaa")
        self.assertEqual(self.aside(*swapped(self.top(names[:-1]))), "zz")
        self.assertEqual(self.aside(*swapped(self.top(names[:52] + names[53:]))), "ba")


class Writes(Steps):
    def test_by_numbers_at_the_end(self):
        old = ((1, 0, "a", 1), (2, 0, "b", 2), (3, 0, "c", 3), (4, 0, "d", 4))
        new = ((1, 0, "a", 9), (2, 0, "b", 2), (3, 0, "c", 0), (5, 0, "d", 4))
        self.leads(old, new, [("drop", 4), ("make", 5, 0, "d", 4), ("write", 1, 9), ("write", 3, 0)])

    def test_moved_and_written(self):
        old = ((1, 0, "a", 1), (2, 0, "b", 2))
        new = ((1, 0, "c", 5), (2, 0, "a", 2))
        self.leads(old, new, [("move", 1, 0, "c"), ("move", 2, 0, "a"), ("write", 1, 5)])

    def test_moved_aside_and_written(self):
        old = ((1, 0, "a", 1), (2, 0, "b", 2))
        new = ((1, 0, "b", 2), (2, 0, "a", 1))
        self.leads(old, new, [
            ("move", 1, 0, "c"), ("move", 2, 0, "a"), ("move", 1, 0, "b"), ("write", 1, 2), ("write", 2, 1),
        ])

    def test_made_is_not_written(self):
        self.leads((), ((1, 0, "a", 7),), [("make", 1, 0, "a", 7)])

    def test_from_and_to_nought(self):
        self.leads(((1, 0, "a", 0),), ((1, 0, "a", 999),), [("write", 1, 999)])
        self.leads(((1, 0, "a", 999),), ((1, 0, "a", 0),), [("write", 1, 0)])


class Refused(unittest.TestCase):
    def refused(self, old, new):
        self.assertTrue(is_tree(old) and is_tree(new), "the case itself is wrong")
        for one, other in ((old, new), (new, old)):
            with self.assertRaises(TreeError) as caught:
                in_steps(one, other)
            self.assertIs(type(caught.exception), NoMatch)

    def test_folder_in_the_one_and_file_in_the_other(self):
        self.refused(((1, 0, "a", None),), ((1, 0, "a", 5),))
        self.refused(((1, 0, "a", None),), ((1, 0, "a", 0),))
        self.refused(((1, 0, "a", None), (2, 1, "x", 5)), ((1, 0, "a", 5), (2, 0, "x", 5)))
        self.refused(((1, 0, "a", 3), (2, 0, "b", None)), ((1, 0, "a", 4), (2, 0, "c", 0)))
        self.refused(((1, 0, "a", None), (2, 1, "b", None)), ((2, 0, "b", 7), (3, 0, "d", None)))

    def test_not_where_the_number_is_another(self):
        self.assertEqual(in_steps(((1, 0, "a", None),), ((2, 0, "a", 0),)), [("drop", 1), ("make", 2, 0, "a", 0)])


def line_up(nodes, number):
    while number:
        yield number
        number = nodes[number][0]


def drops_by_the_words(nodes, goal):
    for number in sorted(nodes):
        under = [inner for inner in nodes if number in line_up(nodes, inner)]
        parent = nodes[number][0]
        if not any(inner in goal for inner in under) and (parent == 0 or parent in goal):
            return ("drop", number)


def places_by_the_words(nodes, goal, left):
    for number in sorted(left):
        parent, name, stamp = goal[number]
        there = parent == 0 or (parent in nodes and nodes[parent][2] is None)
        inside = number in nodes and there and number in line_up(nodes, parent)
        taken = any(node[:2] == (parent, name) for other, node in nodes.items() if other != number)
        if there and not inside and not taken:
            left.remove(number)
            return ("move", number, parent, name) if number in nodes else ("make", number, parent, name, stamp)


def asides_by_the_words(nodes, goal, left, aside):
    for number in sorted(left):
        if number in nodes and number not in aside:
            aside.add(number)
            taken = [node[1] for node in [*nodes.values(), *goal.values()] if node[0] == 0]
            for size in itertools.count(1):
                for letters in itertools.product(string.ascii_lowercase, repeat=size):
                    if "".join(letters) not in taken:
                        return ("move", number, 0, "".join(letters))


def steps_by_the_words(old, new):
    """The deeds again, straight by the words of the document: none is looked for with the program's own parts."""
    nodes, goal = ({node[0]: node[1:] for node in tree} for tree in (old, new))
    left = {number for number in goal if number not in nodes or nodes[number][:2] != goal[number][:2]}
    aside, deeds = set(), []
    while True:
        deed = (drops_by_the_words(nodes, goal) or places_by_the_words(nodes, goal, left)
                or asides_by_the_words(nodes, goal, left, aside))
        if deed is None:
            break
        deeds.append(deed)
        if deed[0] == "drop":
            nodes = {inner: nodes[inner] for inner in nodes if deed[1] not in line_up(nodes, inner)}
        elif deed[0] == "make":
            nodes[deed[1]] = deed[2:]
        else:
            nodes[deed[1]] = deed[2:] + (nodes[deed[1]][2],)
    return deeds + [("write", number, goal[number][2]) for number in sorted(nodes)
                    if nodes[number][2] != goal[number][2]]


class ForManyTrees(unittest.TestCase):
    def check(self, old, new):
        told = in_steps(old, new)
        self.assertEqual(told, steps_by_the_words(old, new), (old, new))
        now = old
        stay = {node[0] for node in old} & {node[0] for node in new}
        for deed in told:
            now = done(now, deed)
            self.assertTrue(stay <= {node[0] for node in now}, (old, new, deed))
        self.assertEqual(now, new, (old, new))
        touched = {deed[1] for deed in told}
        self.assertFalse(touched & {node[0] for node in set(old) & set(new)}, (old, new))
        return told

    def test_every_two_small_trees(self):
        trees = every_tree((1, 2, 3), ("a", "b"), (None,))
        for old in trees:
            for new in trees:
                self.check(old, new)

    def test_every_two_small_trees_with_files(self):
        trees = every_tree((1, 2), ("a", "b"), (None, 0, 5))
        for old in trees:
            kinds = {node[0]: node[3] is None for node in old}
            for new in trees:
                if all(kinds.get(node[0], node[3] is None) == (node[3] is None) for node in new):
                    self.check(old, new)
                else:
                    with self.assertRaises(NoMatch):
                        in_steps(old, new)

    def test_larger_trees(self):
        chance = random.Random(4)
        asides = 0
        for count in range(400):
            numbers = tuple(range(1, chance.choice((6, 10, 14, 20))))
            old, new = (chance_tree(chance, numbers, chance.choice(("ab", "abc", "abcde"))) for turn in range(2))
            told = self.check(old, new)
            ends = [node[:3] for node in new]
            asides += len([deed for deed in told if deed[0] == "move" and deed[1:] not in ends])
        self.assertGreater(asides, 100)

    def test_large_chains_of_folders(self):
        # Deeper than a recursion may go.
        chain = tuple((number, number - 1, "a", None) for number in range(1, 1201))
        self.assertEqual(in_steps(chain, ()), [("drop", 1)])
        self.assertEqual(in_steps(chain, chain[:-1] + ((1200, 1199, "b", None),)), [("move", 1200, 1199, "b")])


class HandedIn(unittest.TestCase):
    old = ((1, 0, "a", 1), (2, 0, "b", 2))
    new = ((1, 0, "b", 2), (2, 0, "a", 1), (3, 0, "c", None))

    def test_stays_as_it_was(self):
        old, new = copy.deepcopy(self.old), copy.deepcopy(self.new)
        in_steps(old, new)
        self.assertEqual((old, new), (self.old, self.new))

    def test_told_lists_are_new_ones(self):
        told = in_steps(self.old, self.new)
        before = list(told)
        told.clear()
        self.assertEqual(in_steps(self.old, self.new), before)
        empty = in_steps(self.old, self.old)
        empty.append(("drop", 1))
        self.assertEqual(in_steps(self.old, self.old), [])

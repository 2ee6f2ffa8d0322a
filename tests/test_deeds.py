import copy
import unittest

from treewatch.deeds import all_done, done
from treewatch.errors import Inside, Known, NoNode, NotFile, NotFolder, Taken, TreeError
from treewatch.trees import is_tree

# a/       2
# a/b/     5
# a/b/c/   4
# a/b/c/d  1  (stamp 7)
# a/z      7  (stamp 8)
# b        3  (stamp 9)
# e/       9, empty
TREE = (
    (1, 4, "d", 7),
    (2, 0, "a", None),
    (3, 0, "b", 9),
    (4, 5, "c", None),
    (5, 2, "b", None),
    (7, 2, "z", 8),
    (9, 0, "e", None),
)


class Deeds(unittest.TestCase):
    def leads(self, deed, tree):
        with self.subTest(deed=deed):
            told = done(TREE, deed)
            self.assertEqual(told, tree)
            self.assertIs(is_tree(told), True)

    def refused(self, deed, error):
        with self.subTest(deed=deed):
            with self.assertRaises(TreeError) as caught:
                done(TREE, deed)
            self.assertIs(type(caught.exception), error)


class Make(Deeds):
    def test_made(self):
        self.leads(("make", 10, 0, "c", None), TREE + ((10, 0, "c", None),))
        self.leads(("make", 10, 9, "a", 0), TREE + ((10, 9, "a", 0),))
        self.leads(("make", 8, 4, "abcde", 999), TREE[:6] + ((8, 4, "abcde", 999),) + TREE[6:])
        self.leads(("make", 6, 2, "c", None), TREE[:5] + ((6, 2, "c", None),) + TREE[5:])

    def test_in_the_empty_tree(self):
        self.assertEqual(done((), ("make", 3, 0, "a", 5)), ((3, 0, "a", 5),))

    def test_known(self):
        self.refused(("make", 2, 0, "x", None), Known)
        self.refused(("make", 3, 0, "x", 5), Known)

    def test_parent_is_no_node(self):
        self.refused(("make", 10, 8, "x", None), NoNode)
        self.refused(("make", 10, -1, "x", 5), NoNode)

    def test_parent_is_the_node_to_be_made(self):
        self.refused(("make", 10, 10, "x", None), NoNode)

    def test_parent_is_a_file(self):
        self.refused(("make", 10, 3, "x", None), NotFolder)
        self.refused(("make", 10, 1, "x", 5), NotFolder)

    def test_name_is_taken(self):
        self.refused(("make", 10, 0, "a", None), Taken)
        self.refused(("make", 10, 0, "a", 5), Taken)
        self.refused(("make", 10, 0, "b", None), Taken)
        self.refused(("make", 10, 4, "d", 7), Taken)

    def test_first_of_two_is_told(self):
        self.refused(("make", 2, 8, "x", None), Known)
        self.refused(("make", 2, 3, "x", None), Known)
        self.refused(("make", 2, 2, "x", None), Known)
        self.refused(("make", 2, 0, "a", None), Known)
        self.refused(("make", 3, 0, "a", 5), Known)

    def test_numbers_beyond_their_bounds_are_not_refused(self):
        self.assertEqual(done(TREE, ("make", 10, 0, "x", 1000)), TREE + ((10, 0, "x", 1000),))
        self.assertEqual(done(TREE, ("make", 10, 0, "abcdef", 5)), TREE + ((10, 0, "abcdef", 5),))


class Write(Deeds):
    def test_written(self):
        self.leads(("write", 1, 0), ((1, 4, "d", 0),) + TREE[1:])
        self.leads(("write", 3, 999), TREE[:2] + ((3, 0, "b", 999),) + TREE[3:])

    def test_the_same_stamp(self):
        self.leads(("write", 3, 9), TREE)

    def test_no_node(self):
        for number in (0, 6, 10, -1):
            self.refused(("write", number, 5), NoNode)

    def test_folder(self):
        self.refused(("write", 2, 5), NotFile)
        self.refused(("write", 9, 0), NotFile)

    def test_stamps_beyond_their_bounds_are_not_refused(self):
        self.assertEqual(done(TREE, ("write", 3, 1000)), TREE[:2] + ((3, 0, "b", 1000),) + TREE[3:])


class Move(Deeds):
    def test_file(self):
        self.leads(("move", 3, 9, "b"), TREE[:2] + ((3, 9, "b", 9),) + TREE[3:])
        self.leads(("move", 3, 0, "f"), TREE[:2] + ((3, 0, "f", 9),) + TREE[3:])
        self.leads(("move", 1, 0, "d"), ((1, 0, "d", 7),) + TREE[1:])

    def test_folder_with_all_below_it(self):
        self.leads(("move", 5, 9, "q"), TREE[:4] + ((5, 9, "q", None),) + TREE[5:])
        self.leads(("move", 2, 9, "a"), TREE[:1] + ((2, 9, "a", None),) + TREE[2:])
        self.leads(("move", 4, 2, "c"), TREE[:3] + ((4, 2, "c", None),) + TREE[4:])

    def test_to_where_it_stands(self):
        for number, parent, name, _ in TREE:
            self.leads(("move", number, parent, name), TREE)

    def test_no_node(self):
        for number in (0, 6, 10, -1):
            self.refused(("move", number, 0, "x"), NoNode)

    def test_parent_is_no_node(self):
        self.refused(("move", 3, 6, "x"), NoNode)
        self.refused(("move", 2, -1, "x"), NoNode)

    def test_parent_is_a_file(self):
        self.refused(("move", 9, 3, "x"), NotFolder)
        self.refused(("move", 3, 7, "x"), NotFolder)

    def test_inside(self):
        self.refused(("move", 2, 2, "x"), Inside)
        self.refused(("move", 2, 5, "x"), Inside)
        self.refused(("move", 2, 4, "x"), Inside)
        self.refused(("move", 9, 9, "x"), Inside)

    def test_name_is_taken(self):
        self.refused(("move", 3, 0, "a"), Taken)
        self.refused(("move", 2, 0, "b"), Taken)
        self.refused(("move", 3, 2, "b"), Taken)
        self.refused(("move", 9, 5, "c"), Taken)

    def test_first_of_two_is_told(self):
        # No node, ahead of a parent that is a file, and of a name that is taken.
        self.refused(("move", 6, 3, "x"), NoNode)
        self.refused(("move", 6, 0, "a"), NoNode)
        self.refused(("move", 6, 6, "x"), NoNode)
        # A parent that is a file, ahead of one that is the node itself or below it.
        self.refused(("move", 3, 3, "x"), NotFolder)
        self.refused(("move", 2, 7, "x"), NotFolder)
        self.refused(("move", 2, 1, "x"), NotFolder)
        # Inside, ahead of a name that is taken.
        self.refused(("move", 2, 2, "b"), Inside)
        self.refused(("move", 2, 5, "c"), Inside)


class Drop(Deeds):
    def test_file(self):
        self.leads(("drop", 3), TREE[:2] + TREE[3:])
        self.leads(("drop", 1), TREE[1:])

    def test_empty_folder(self):
        self.leads(("drop", 9), TREE[:6])

    def test_folder_with_folders_in_it(self):
        self.leads(("drop", 2), (TREE[2], TREE[6]))
        self.leads(("drop", 5), (TREE[1], TREE[2], TREE[5], TREE[6]))

    def test_last_node(self):
        self.assertEqual(done(((4, 0, "a", None),), ("drop", 4)), ())

    def test_no_node(self):
        for number in (0, 6, 10, -1):
            self.refused(("drop", number), NoNode)
        with self.assertRaises(NoNode):
            done((), ("drop", 0))


class AllDone(unittest.TestCase):
    deeds = [
        ("make", 10, 9, "new", None),
        ("move", 5, 10, "b"),
        ("write", 1, 100),
        ("drop", 2),
        ("make", 2, 10, "c", 3),
    ]
    behind = (
        (1, 4, "d", 100),
        (2, 10, "c", 3),
        (3, 0, "b", 9),
        (4, 5, "c", None),
        (5, 10, "b", None),
        (9, 0, "e", None),
        (10, 9, "new", None),
    )

    def test_none(self):
        self.assertEqual(all_done(TREE, []), TREE)
        self.assertEqual(all_done((), []), ())

    def test_one_behind_the_other(self):
        self.assertEqual(all_done(TREE, self.deeds), self.behind)

    def test_as_done_step_by_step(self):
        tree = TREE
        for count, deed in enumerate(self.deeds, start=1):
            tree = done(tree, deed)
            self.assertEqual(all_done(TREE, self.deeds[:count]), tree)

    def test_refused_as_the_first_that_is(self):
        for bad, error in ((("drop", 7), NoNode), (("write", 10, 5), NotFile), (("make", 3, 0, "x", 5), Known),
                           (("move", 10, 5, "x"), Inside), (("move", 9, 3, "x"), NotFolder),
                           (("make", 11, 0, "b", 5), Taken)):
            with self.subTest(bad=bad):
                deeds = self.deeds[:4] + [bad, ("make", 1, 0, "x", 5), ("drop", 77)] + self.deeds[4:]
                with self.assertRaises(TreeError) as caught:
                    all_done(TREE, deeds)
                self.assertIs(type(caught.exception), error)

    def test_handed_in_stays_as_it_was(self):
        deeds = list(self.deeds)
        all_done(TREE, deeds)
        self.assertEqual(deeds, AllDone.deeds)
        deeds.insert(2, ("drop", 77))
        before = list(deeds)
        with self.assertRaises(NoNode):
            all_done(TREE, deeds)
        self.assertEqual(deeds, before)


def is_under(nodes, number, folder):
    while number in nodes:
        if number == folder:
            return True
        number = nodes[number][0]
    return False


def refusals(nodes, deed):
    """All refusals that the deed is due, in their turn: tuples (whether, class)."""
    word, number = deed[:2]
    known = number in nodes
    turn = [(known, Known) if word == "make" else (not known, NoNode)]
    if word == "write":
        turn.append((known and nodes[number][2] is None, NotFile))
    if word in ("make", "move"):
        parent, name = deed[2:4]
        turn.append((parent != 0 and parent not in nodes, NoNode))
        turn.append((parent in nodes and nodes[parent][2] is not None, NotFolder))
        turn.append((word == "move" and known and is_under(nodes, parent, number), Inside))
        taken = [other for other, node in nodes.items() if node[:2] == (parent, name) and other != number]
        turn.append((bool(taken), Taken))
    return [error for due, error in turn if due]


def nodes_behind(nodes, deed):
    word, number = deed[:2]
    nodes = dict(nodes)
    if word == "make":
        nodes[number] = deed[2:]
    elif word == "write":
        nodes[number] = nodes[number][:2] + (deed[2],)
    elif word == "move":
        nodes[number] = deed[2:] + (nodes[number][2],)
    else:
        nodes = {other: node for other, node in nodes.items() if not is_under(nodes, other, number)}
    return nodes


def deeds_to_try():
    numbers = range(0, 7)
    for number in numbers:
        yield ("drop", number)
        for stamp in (0, 5):
            yield ("write", number, stamp)
        for parent in numbers:
            for name in ("a", "b", "c"):
                yield ("move", number, parent, name)
                if number > 0:
                    yield ("make", number, parent, name, None)
                    yield ("make", number, parent, name, 5)


class EveryDeed(unittest.TestCase):
    """Every deed of a few numbers and names, on trees that deeds lead to, against plain rules."""

    starts = (
        (),
        ((3, 0, "a", None),),
        ((1, 2, "a", None), (2, 3, "b", None), (3, 0, "a", None), (5, 1, "c", 5)),
        ((1, 0, "a", None), (2, 0, "b", 5), (3, 1, "a", None), (4, 1, "b", 0), (6, 3, "a", None)),
    )

    def check(self, tree, deed):
        nodes = {node[0]: node[1:] for node in tree}
        due = refusals(nodes, deed)
        deed_before, tree_before = copy.deepcopy(deed), copy.deepcopy(tree)
        try:
            told = done(tree, deed)
        except TreeError as error:
            told = None
            self.assertEqual([type(error)], due[:1], (tree, deed))
        else:
            self.assertEqual(due, [], (tree, deed))
            behind = nodes_behind(nodes, deed)
            self.assertEqual(told, tuple((number,) + behind[number] for number in sorted(behind)), (tree, deed))
            self.assertIs(is_tree(told), True, (tree, deed))
        self.assertEqual((tree, deed), (tree_before, deed_before))
        return told

    def test_one_deed_and_another_behind_it(self):
        for start in self.starts:
            reached = {}
            for deed in deeds_to_try():
                told = self.check(start, deed)
                if told is not None:
                    reached[told] = True
            for tree in reached:
                for deed in deeds_to_try():
                    self.check(tree, deed)

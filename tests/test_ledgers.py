import copy
import random
import unittest

from samples import chance_deed, chance_tree, do_steps
from treewatch.changes import change_between
from treewatch.deeds import all_done, done
from treewatch.errors import (
    Inside, Known, NoBack, NoNode, NoTag, NotFile, NotFolder, Taken, TreeError,
)
from treewatch.ledgers import Ledger

# a/       2
# a/b/     5
# a/b/d    1  (stamp 7)
# a/z      7  (stamp 8)
# b        3  (stamp 9)
# e/       9, empty
TREE = (
    (1, 5, "d", 7),
    (2, 0, "a", None),
    (3, 0, "b", 9),
    (5, 2, "b", None),
    (7, 2, "z", 8),
    (9, 0, "e", None),
)
MAKE = ("make", 4, 9, "x", 3)
WRITE = ("write", 7, 0)
MOVE = ("move", 5, 9, "q")
DROP = ("drop", 3)
DEEDS = [MAKE, WRITE, MOVE, DROP]
REFUSED = (
    (("make", 1, 0, "x", 3), Known), (("make", 4, 8, "x", 3), NoNode), (("make", 4, 3, "x", 3), NotFolder),
    (("make", 4, 0, "a", 3), Taken), (("write", 4, 3), NoNode), (("write", 2, 3), NotFile),
    (("move", 4, 0, "x"), NoNode), (("move", 5, 8, "x"), NoNode), (("move", 5, 3, "x"), NotFolder),
    (("move", 2, 5, "x"), Inside), (("move", 2, 2, "x"), Inside), (("move", 5, 0, "a"), Taken), (("drop", 4), NoNode),
)
NO_TAGS = ("", "abcdef", "A", "aB", "a1", "1", "a b", "a-b", "-", " a", "a\n", "\u00e4", "\u03b1", "\u0430",
           1, 0, None, True, ("a",), ["a"], (), [])


def picture(ledger):
    """All that a ledger tells, its steps back and forth on a twin of it among them."""
    tags = ledger.tags()
    told = [
        ledger.now(), ledger.base(), ledger.steps(), ledger.sizes(), tags,
        [ledger.tagged(name) for name in tags], [ledger.from_tag(name) for name in tags],
    ]
    for way in ("back", "forth"):
        walker = ledger.twin()
        for _ in range(sum(ledger.sizes())):
            try:
                told.append((way, getattr(walker, way)(), walker.now(), walker.steps(), walker.sizes(), walker.tags(),
                             [walker.tagged(name) for name in walker.tags()]))
            except NoBack:
                break
    return told


def ledger_of(tree, steps):
    return do_steps(Ledger(tree), steps)


class Deeds(unittest.TestCase):
    def test_at_first(self):
        for tree in ((), TREE):
            ledger = Ledger(tree)
            self.assertEqual(ledger.now(), tree)
            self.assertEqual(ledger.base(), tree)
            self.assertEqual(ledger.steps(), [])
            self.assertEqual(ledger.tags(), [])
            self.assertEqual(ledger.sizes(), (0, 0))

    def test_do(self):
        ledger = Ledger(TREE)
        for count, deed in enumerate(DEEDS, start=1):
            self.assertIsNone(ledger.do(deed))
            self.assertEqual(ledger.now(), all_done(TREE, DEEDS[:count]))
            self.assertEqual(ledger.steps(), DEEDS[:count])
            self.assertEqual(ledger.sizes(), (count, 0))
            self.assertEqual(ledger.base(), TREE)
            self.assertEqual(ledger.tags(), [])

    def test_deeds_that_change_nothing_are_steps(self):
        ledger = Ledger(TREE)
        ledger.do(("write", 7, 8))
        ledger.do(("move", 5, 2, "b"))
        self.assertEqual(ledger.now(), TREE)
        self.assertEqual(ledger.steps(), [("write", 7, 8), ("move", 5, 2, "b")])
        self.assertEqual((ledger.back(), ledger.back()), ("move", "write"))

    def test_refusals_change_nothing(self):
        plain = Ledger(TREE)
        rich = ledger_of(TREE, [("tag", "a"), WRITE, ("tag", "b"), ("tag", "a"), ("write", 7, 5), ("write", 7, 6)])
        rich.back()
        rich.back()
        for ledger in (plain, rich):
            before = picture(ledger)
            for deed, refusal in REFUSED:
                with self.subTest(deed=deed):
                    self.assertRaises(refusal, ledger.do, deed)
                    self.assertEqual(picture(ledger), before)
        self.assertEqual(rich.forth(), "write")
        self.assertEqual(rich.now(), done(TREE, ("write", 7, 5)))

    def test_two_ledgers_go_by_themselves(self):
        one, other = Ledger(TREE), Ledger(TREE)
        one.do(WRITE)
        one.tag("a")
        self.assertEqual(picture(other), picture(Ledger(TREE)))


class Tags(unittest.TestCase):
    def test_anew_and_once_more(self):
        ledger = Ledger(TREE)
        self.assertIs(ledger.tag("one"), False)
        self.assertIs(ledger.tag("one"), True)
        self.assertIs(ledger.tag("two"), False)
        self.assertIs(ledger.tag("one"), True)
        self.assertEqual(ledger.steps(), [("tag", "one"), ("tag", "one"), ("tag", "two"), ("tag", "one")])
        self.assertEqual(ledger.sizes(), (4, 0))
        self.assertEqual(ledger.now(), TREE)

    def test_names(self):
        ledger = Ledger(())
        for name in ("a", "z", "abcde", "zzzzz", "tag", "make"):
            self.assertIs(ledger.tag(name), False)
        self.assertEqual(ledger.tags(), ["a", "abcde", "make", "tag", "z", "zzzzz"])

    def test_of_the_tree_without_nodes(self):
        ledger = Ledger(())
        ledger.tag("a")
        ledger.do(("make", 1, 0, "x", None))
        self.assertEqual(ledger.tagged("a"), ())
        self.assertIs(ledger.tag("a"), True)
        self.assertEqual(ledger.tagged("a"), ((1, 0, "x", None),))
        ledger.back()
        self.assertEqual(ledger.tagged("a"), ())

    def test_put_on_the_tree_of_now(self):
        ledger = Ledger(TREE)
        ledger.tag("a")
        ledger.do(WRITE)
        ledger.tag("b")
        self.assertEqual(ledger.tagged("a"), TREE)
        self.assertEqual(ledger.tagged("b"), done(TREE, WRITE))
        self.assertIs(ledger.tag("a"), True)
        self.assertEqual(ledger.tagged("a"), done(TREE, WRITE))
        ledger.do(DROP)
        self.assertEqual(ledger.tagged("a"), done(TREE, WRITE))
        self.assertEqual(ledger.tagged("b"), done(TREE, WRITE))
        self.assertEqual(ledger.now(), all_done(TREE, [WRITE, DROP]))

    def test_several_on_one_tree(self):
        ledger = ledger_of(TREE, [("tag", "a"), ("tag", "b")])
        self.assertEqual((ledger.tagged("a"), ledger.tagged("b")), (TREE, TREE))

    def test_no_tag(self):
        ledger = ledger_of(TREE, [("tag", "a"), WRITE, DROP])
        ledger.back()
        before = picture(ledger)
        for name in NO_TAGS:
            with self.subTest(name=name):
                self.assertRaises(NoTag, ledger.tag, name)
                self.assertEqual(picture(ledger), before)

    def test_from_tag(self):
        ledger = Ledger(TREE)
        ledger.tag("a")
        self.assertEqual(ledger.from_tag("a"), ())
        ledger.do(WRITE)
        self.assertEqual(ledger.from_tag("a"), ((7, (2, "z", 8), (2, "z", 0)),))
        ledger.tag("b")
        ledger.do(DROP)
        self.assertEqual(ledger.from_tag("b"), ((3, (0, "b", 9), None),))
        self.assertEqual(ledger.from_tag("a"), change_between(TREE, all_done(TREE, [WRITE, DROP])))
        ledger.back()
        ledger.back()
        ledger.back()
        self.assertEqual(ledger.from_tag("a"), ())

    def test_a_tag_that_is_none(self):
        ledger = ledger_of(TREE, [("tag", "a"), WRITE])
        for name in ("b", "aa", "", "A", "abcdef"):
            self.assertRaises(NoTag, ledger.tagged, name)
            self.assertRaises(NoTag, ledger.from_tag, name)
            self.assertRaises(NoTag, Ledger(TREE).tagged, name)
            self.assertRaises(NoTag, Ledger(TREE).from_tag, name)

    def test_a_tag_that_was_taken_back(self):
        ledger = ledger_of(TREE, [WRITE, ("tag", "a")])
        self.assertEqual(ledger.back(), "tag")
        self.assertRaises(NoTag, ledger.tagged, "a")
        self.assertRaises(NoTag, ledger.from_tag, "a")
        self.assertEqual(ledger.tags(), [])
        self.assertEqual(ledger.now(), done(TREE, WRITE))
        self.assertEqual(ledger.forth(), "tag")
        self.assertEqual(ledger.tagged("a"), done(TREE, WRITE))
        ledger.back()
        self.assertIs(ledger.tag("a"), False)

    def test_a_tag_stays_where_the_deed_ahead_of_it_stays(self):
        ledger = ledger_of(TREE, [("tag", "a"), WRITE])
        ledger.back()
        self.assertEqual(ledger.tagged("a"), TREE)
        self.assertEqual(ledger.tags(), ["a"])

    def test_rising(self):
        ledger = ledger_of(TREE, [("tag", name) for name in ("c", "ab", "b", "a", "abc", "c")])
        self.assertEqual(ledger.tags(), ["a", "ab", "abc", "b", "c"])


class BackAndForth(unittest.TestCase):
    def test_each_word(self):
        for deed in DEEDS:
            ledger = Ledger(TREE)
            ledger.do(deed)
            self.assertEqual(ledger.back(), deed[0])
            self.assertEqual((ledger.now(), ledger.steps(), ledger.sizes()), (TREE, [], (0, 1)))
            self.assertEqual(ledger.forth(), deed[0])
            self.assertEqual((ledger.now(), ledger.steps(), ledger.sizes()), (done(TREE, deed), [deed], (1, 0)))

    def test_a_tag_that_had_none_ahead(self):
        ledger = Ledger(TREE)
        ledger.tag("a")
        self.assertEqual(ledger.back(), "tag")
        self.assertEqual((ledger.tags(), ledger.steps(), ledger.sizes()), ([], [], (0, 1)))
        self.assertEqual(ledger.forth(), "tag")
        self.assertEqual((ledger.tags(), ledger.steps(), ledger.sizes()), (["a"], [("tag", "a")], (1, 0)))
        self.assertEqual(ledger.tagged("a"), TREE)

    def test_a_tag_that_had_another_tree_ahead(self):
        ledger = ledger_of(TREE, [("tag", "a"), WRITE, ("tag", "a")])
        self.assertEqual(ledger.tagged("a"), done(TREE, WRITE))
        self.assertEqual(ledger.back(), "tag")
        self.assertEqual(ledger.tagged("a"), TREE)
        self.assertEqual(ledger.from_tag("a"), change_between(TREE, done(TREE, WRITE)))
        self.assertEqual(ledger.forth(), "tag")
        self.assertEqual(ledger.tagged("a"), done(TREE, WRITE))

    def test_a_drop_with_all_below_it(self):
        ledger = ledger_of(TREE, [("drop", 2)])
        self.assertEqual(ledger.now(), (TREE[2], TREE[5]))
        self.assertEqual(ledger.back(), "drop")
        self.assertEqual(ledger.now(), TREE)

    def test_several_in_a_row(self):
        steps = [MAKE, ("tag", "a"), WRITE, MOVE, ("tag", "b"), ("tag", "a"), DROP]
        ledger = ledger_of(TREE, steps)
        self.assertEqual([ledger.back() for _ in steps], ["drop", "tag", "tag", "move", "write", "tag", "make"])
        self.assertEqual((ledger.now(), ledger.tags(), ledger.sizes()), (TREE, [], (0, 7)))
        for count, step in enumerate(steps, start=1):
            self.assertEqual(ledger.forth(), step[0])
            self.assertEqual(ledger.steps(), steps[:count])
            self.assertEqual(ledger.sizes(), (count, 7 - count))
            self.assertEqual(ledger.now(), ledger_of(TREE, steps[:count]).now())

    def test_forth_behind_another_step(self):
        for step in (WRITE, ("tag", "a")):
            ledger = ledger_of(TREE, [MAKE, MOVE])
            ledger.back()
            ledger.back()
            if step[0] == "tag":
                ledger.tag("a")
            else:
                ledger.do(step)
            self.assertEqual(ledger.sizes(), (1, 0))
            self.assertRaises(NoBack, ledger.forth)
            self.assertEqual(ledger.steps(), [step])
            self.assertEqual(ledger.back(), step[0])
            self.assertEqual(ledger.forth(), step[0])
            self.assertRaises(NoBack, ledger.forth)

    def test_forth_behind_a_refused_step(self):
        ledger = ledger_of(TREE, [MAKE])
        ledger.back()
        self.assertRaises(NoNode, ledger.do, ("drop", 4))
        self.assertRaises(NoTag, ledger.tag, "A")
        self.assertRaises(NoBack, ledger.back)
        self.assertEqual(ledger.forth(), "make")

    def test_at_either_end(self):
        ledger = Ledger(TREE)
        self.assertRaises(NoBack, ledger.back)
        self.assertRaises(NoBack, ledger.forth)
        ledger.do(WRITE)
        self.assertRaises(NoBack, ledger.forth)
        ledger.back()
        self.assertRaises(NoBack, ledger.back)
        self.assertEqual(picture(ledger)[:4], [TREE, TREE, [], (0, 1)])
        ledger.forth()
        self.assertRaises(NoBack, ledger.forth)
        self.assertEqual(picture(ledger)[:4], [done(TREE, WRITE), TREE, [WRITE], (1, 0)])

    def test_base_behind_many_steps(self):
        ledger = Ledger(TREE)
        for stamp in range(200):
            ledger.do(("write", 7, stamp))
        self.assertEqual(ledger.base(), TREE)
        self.assertEqual(ledger.sizes(), (200, 0))
        for stamp in range(199, 0, -1):
            ledger.back()
            self.assertEqual(ledger.now(), done(TREE, ("write", 7, stamp - 1)))
        self.assertEqual(ledger.base(), TREE)

    def test_steps_with_tags_among_them(self):
        steps = [("tag", "a"), MAKE, ("tag", "a"), ("tag", "b"), DROP]
        self.assertEqual(ledger_of(TREE, steps).steps(), steps)


class Twins(unittest.TestCase):
    def pair(self):
        ledger = ledger_of(TREE, [("tag", "a"), MAKE, ("tag", "a"), WRITE, ("tag", "b"), DROP])
        ledger.back()
        ledger.back()
        return ledger, ledger.twin()

    def test_the_same_at_first(self):
        ledger, twin = self.pair()
        self.assertIsInstance(twin, Ledger)
        self.assertIsNot(twin, ledger)
        self.assertEqual(twin.sizes(), (4, 2))
        self.assertEqual(picture(twin), picture(ledger))
        self.assertEqual(picture(Ledger(TREE).twin()), picture(Ledger(TREE)))

    def test_each_by_itself(self):
        ways = (
            lambda ledger: ledger.do(DROP), lambda ledger: ledger.tag("a"), lambda ledger: ledger.tag("c"),
            lambda ledger: ledger.back(), lambda ledger: ledger.forth(),
            lambda ledger: [ledger.back() for _ in range(4)], lambda ledger: [ledger.forth(), ledger.forth()],
        )
        for way in ways:
            for turned in (False, True):
                one, other = self.pair()[::-1] if turned else self.pair()
                before = picture(other)
                way(one)
                self.assertNotEqual(picture(one), before)
                self.assertEqual(picture(other), before)
                way(other)
                self.assertEqual(picture(other), picture(one))

    def test_a_twin_of_a_twin(self):
        ledger, twin = self.pair()
        third = twin.twin()
        twin.do(DROP)
        self.assertEqual(picture(third), picture(ledger))


class Told(unittest.TestCase):
    def test_lists_are_new(self):
        ledger = ledger_of(TREE, [MAKE, ("tag", "a"), WRITE])
        before = picture(ledger)
        for told in (ledger.steps(), ledger.tags()):
            self.assertIs(type(told), list)
            told.append(("drop", 2))
            told.reverse()
        ledger.steps().clear()
        ledger.tags().clear()
        self.assertEqual(picture(ledger), before)
        self.assertEqual(ledger.back(), "write")

    def test_kinds_of_what_is_told(self):
        ledger = ledger_of(TREE, [MAKE, ("tag", "a"), WRITE])
        self.assertEqual([type(step) for step in ledger.steps()], [tuple, tuple, tuple])
        self.assertIs(type(ledger.sizes()), tuple)
        self.assertIs(type(ledger.now()), tuple)
        self.assertIs(type(ledger.from_tag("a")), tuple)

    def test_what_is_handed_in_stays(self):
        tree, deeds = copy.deepcopy((TREE, DEEDS))
        ledger_of(tree, deeds)
        self.assertEqual((tree, deeds), (TREE, DEEDS))


class Replayed:
    """A second ledger, which keeps nothing but steps and tells all by doing them anew."""

    def __init__(self, tree):
        self.first, self.done, self.undone = tree, [], []

    def state(self):
        tree, tags = self.first, {}
        for step in self.done:
            if step[0] == "tag":
                tags[step[1]] = tree
            else:
                tree = done(tree, step)
        return tree, tags

    def do(self, step):
        self.done.append(step)
        self.undone = []


class ByChance(unittest.TestCase):
    def agree(self, ledger, model):
        tree, tags = model.state()
        self.assertEqual(ledger.now(), tree)
        self.assertEqual(ledger.base(), model.first)
        self.assertEqual(ledger.tags(), sorted(tags))
        self.assertEqual({name: ledger.tagged(name) for name in tags}, tags)
        for name in tags:
            self.assertEqual(ledger.from_tag(name), change_between(tags[name], tree))
        self.assertEqual(ledger.steps(), model.done)
        self.assertEqual(ledger.sizes(), (len(model.done), len(model.undone)))

    def one_step(self, chance, ledger, model):
        way = chance.choice(("do", "do", "do", "tag", "back", "back", "forth"))
        if way == "do":
            deed = chance_deed(chance, tuple(range(1, 9)), ("a", "b"))
            try:
                behind = done(model.state()[0], deed)
            except TreeError as refusal:
                self.assertRaises(type(refusal), ledger.do, deed)
                return
            self.assertIsNone(ledger.do(deed))
            self.assertEqual(ledger.now(), behind)
            model.do(deed)
        elif way == "tag":
            name = chance.choice(("a", "b", "c"))
            self.assertIs(ledger.tag(name), name in model.state()[1])
            model.do(("tag", name))
        else:
            source, target = (model.done, model.undone) if way == "back" else (model.undone, model.done)
            if not source:
                self.assertRaises(NoBack, getattr(ledger, way))
                return
            target.append(source.pop())
            self.assertEqual(getattr(ledger, way)(), target[-1][0])

    def test_many_steps(self):
        chance = random.Random(15)
        for _ in range(40):
            tree = chance_tree(chance, tuple(range(1, 9)), ("a", "b"))
            ledger, model = Ledger(tree), Replayed(tree)
            for _ in range(60):
                self.one_step(chance, ledger, model)
                self.agree(ledger, model)

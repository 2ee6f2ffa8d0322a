import random
import unittest

from samples import chance_deed, chance_deeds
from treewatch.changes import applied, change_between
from treewatch.deeds import all_done, done
from treewatch.errors import Inside, Known, NoMark, NoNode, NoReader, NotFile, NotFolder, Taken, TreeError
from treewatch.watching import Watch

TREE = ((1, 0, "a", None), (2, 1, "b", 5), (3, 0, "c", None))
DEEDS = [
    ("make", 4, 3, "d", 7),
    ("write", 2, 6),
    ("move", 4, 1, "d"),
    ("write", 2, 6),          # changes nothing, and is a deed all the same
    ("drop", 1),
    ("make", 4, 0, "a", None),
]
REFUSED = (
    (("make", 2, 0, "x", 5), Known),
    (("make", 9, 2, "x", 5), NotFolder),
    (("make", 9, 8, "x", 5), NoNode),
    (("make", 9, 1, "b", 5), Taken),
    (("write", 9, 5), NoNode),
    (("write", 1, 5), NotFile),
    (("move", 9, 0, "x"), NoNode),
    (("move", 1, 1, "x"), Inside),
    (("move", 1, 2, "x"), NotFolder),
    (("move", 3, 0, "a"), Taken),
    (("drop", 9), NoNode),
)


def trees_on_the_way(tree, deeds):
    return [all_done(tree, deeds[:count]) for count in range(len(deeds) + 1)]


class Watches(unittest.TestCase):
    def refused(self, error, call, *arguments):
        with self.assertRaises(TreeError) as caught:
            call(*arguments)
        self.assertIs(type(caught.exception), error)


class Deed(Watches):
    def test_at_first(self):
        watch = Watch(TREE, 3)
        self.assertEqual(watch.now(), TREE)
        self.assertEqual(watch.mark(), 0)
        self.assertEqual(watch.since(0), ())

    def test_now_and_mark(self):
        for most in (0, 1, 2, 100):
            watch = Watch(TREE, most)
            for count, deed in enumerate(DEEDS):
                self.assertEqual(watch.mark(), count)
                self.assertIsNone(watch.deed(deed))
                self.assertEqual(watch.now(), all_done(TREE, DEEDS[:count + 1]))
            self.assertEqual(watch.mark(), len(DEEDS))

    def test_empty_tree(self):
        watch = Watch((), 1)
        self.assertEqual(watch.now(), ())
        watch.deed(("make", 1, 0, "a", None))
        self.assertEqual(watch.now(), ((1, 0, "a", None),))
        self.assertEqual(watch.since(0), ((1, None, (0, "a", None)),))

    def test_refused_as_done_and_nothing_is_changed(self):
        for most in (0, 1, 5):
            watch = Watch(TREE, most)
            watch.deed(("write", 2, 8))
            tree = watch.now()
            reader = watch.reader()
            told = [watch.since(mark) for mark in (0, 1)]
            for deed, error in REFUSED:
                with self.subTest(most=most, deed=deed):
                    self.refused(error, watch.deed, deed)
                    self.assertEqual(watch.now(), tree)
                    self.assertEqual(watch.mark(), 1)
                    self.assertEqual([watch.since(mark) for mark in (0, 1)], told)
                    self.refused(NoMark, watch.since, 2)
                    self.assertEqual(watch.read(reader), ("change", ()))

    def test_refused_at_first(self):
        watch = Watch((), 1)
        self.refused(NoNode, watch.deed, ("drop", 1))
        self.assertEqual((watch.now(), watch.mark(), watch.since(0)), ((), 0, ()))


class Since(Watches):
    def test_each_mark(self):
        trees = trees_on_the_way(TREE, DEEDS)
        for most in range(len(DEEDS) + 3):
            watch = Watch(TREE, most)
            for done_now in range(len(DEEDS) + 1):
                for mark in range(done_now + 1):
                    with self.subTest(most=most, done_now=done_now, mark=mark):
                        told = watch.since(mark)
                        if done_now - mark > most:
                            self.assertIsNone(told)
                        else:
                            self.assertEqual(told, change_between(trees[mark], trees[done_now]))
                if done_now < len(DEEDS):
                    watch.deed(DEEDS[done_now])

    def test_by_hand(self):
        watch = Watch(TREE, 2)
        watch.deed(("make", 4, 3, "d", 7))
        watch.deed(("write", 2, 6))
        self.assertEqual(watch.since(0), ((2, (1, "b", 5), (1, "b", 6)), (4, None, (3, "d", 7))))
        self.assertEqual(watch.since(1), ((2, (1, "b", 5), (1, "b", 6)),))
        self.assertEqual(watch.since(2), ())
        watch.deed(("drop", 4))
        self.assertIsNone(watch.since(0))
        self.assertEqual(watch.since(1), ((2, (1, "b", 5), (1, "b", 6)), (4, (3, "d", 7), None)))
        self.assertEqual(watch.since(2), ((4, (3, "d", 7), None),))
        self.assertEqual(watch.since(3), ())

    def test_there_and_back_is_the_empty_change_and_not_none(self):
        watch = Watch(TREE, 2)
        watch.deed(("move", 3, 1, "c"))
        watch.deed(("move", 3, 0, "c"))
        self.assertEqual(watch.since(0), ())
        watch.deed(("write", 2, 5))
        self.assertIsNone(watch.since(0))

    def test_none_kept(self):
        watch = Watch(TREE, 0)
        self.assertEqual(watch.since(0), ())
        watch.deed(("write", 2, 6))
        self.assertIsNone(watch.since(0))
        self.assertEqual(watch.since(1), ())
        # Also where the deed changed nothing.
        watch.deed(("write", 2, 6))
        self.assertIsNone(watch.since(1))

    def test_no_mark(self):
        for most in (0, 1, 5):
            watch = Watch(TREE, most)
            for mark in (-1, 1, 2, -5):
                self.refused(NoMark, watch.since, mark)
            watch.deed(("write", 2, 6))
            watch.deed(("write", 2, 7))
            for mark in (-1, -2, 3, 4):
                self.refused(NoMark, watch.since, mark)

    def test_told_again(self):
        watch = Watch(TREE, 3)
        watch.deed(("write", 2, 6))
        self.assertEqual(watch.since(0), watch.since(0))
        self.assertEqual(watch.mark(), 1)


class Readers(Watches):
    def test_none(self):
        watch = Watch(TREE, 3)
        for number in (-1, 0, 1):
            self.refused(NoReader, watch.read, number)

    def test_numbered_from_nought(self):
        watch = Watch(TREE, 3)
        self.assertEqual([watch.reader() for count in range(4)], [0, 1, 2, 3])
        watch.deed(("write", 2, 6))
        self.assertEqual(watch.reader(), 4)

    def test_no_reader(self):
        watch = Watch(TREE, 3)
        watch.reader()
        watch.reader()
        watch.deed(("write", 2, 6))
        for number in (-1, -2, 2, 3):
            self.refused(NoReader, watch.read, number)
        # Nobody has read by that.
        for number in (0, 1):
            self.assertEqual(watch.read(number), ("change", ((2, (1, "b", 5), (1, "b", 6)),)))

    def test_has_seen_the_tree_of_its_beginning(self):
        watch = Watch(TREE, 3)
        watch.deed(("write", 2, 6))
        reader = watch.reader()
        self.assertEqual(watch.read(reader), ("change", ()))
        watch.deed(("write", 2, 7))
        self.assertEqual(watch.read(reader), ("change", ((2, (1, "b", 6), (1, "b", 7)),)))

    def test_twice_with_nothing_between(self):
        for most in (0, 1, 3):
            watch = Watch(TREE, most)
            reader = watch.reader()
            self.assertEqual(watch.read(reader), ("change", ()))
            watch.deed(("write", 2, 6))
            self.assertEqual(watch.read(reader)[0], "change" if most else "tree")
            self.assertEqual(watch.read(reader), ("change", ()))
            self.assertEqual(watch.read(reader), ("change", ()))

    def test_just_as_many_as_are_kept_and_one_more(self):
        for most in range(5):
            watch = Watch(TREE, most)
            reader = watch.reader()
            for stamp in range(10, 10 + most):
                watch.deed(("write", 2, stamp))
            change = ((2, (1, "b", 5), (1, "b", 9 + most)),) if most else ()
            self.assertEqual(watch.read(reader), ("change", change))
            for stamp in range(20, 21 + most):
                watch.deed(("write", 2, stamp))
            self.assertEqual(watch.read(reader), ("tree", ((1, 0, "a", None), (2, 1, "b", 20 + most), TREE[2])))
            self.assertEqual(watch.read(reader), ("change", ()))

    def test_each_reads_at_other_times(self):
        watch = Watch(TREE, 2)
        often, seldom = watch.reader(), watch.reader()
        watch.deed(("write", 2, 6))
        self.assertEqual(watch.read(often), ("change", ((2, (1, "b", 5), (1, "b", 6)),)))
        watch.deed(("move", 3, 1, "c"))
        late = watch.reader()
        self.assertEqual(watch.read(often), ("change", ((3, (0, "c", None), (1, "c", None)),)))
        watch.deed(("write", 2, 7))
        self.assertEqual(watch.read(late), ("change", ((2, (1, "b", 6), (1, "b", 7)),)))
        self.assertEqual(watch.read(seldom), ("tree", watch.now()))
        self.assertEqual(watch.read(often), ("change", ((2, (1, "b", 6), (1, "b", 7)),)))
        for number in (often, seldom, late):
            self.assertEqual(watch.read(number), ("change", ()))

    def test_kinds_of_what_is_told(self):
        watch = Watch(TREE, 1)
        reader = watch.reader()
        self.assertIs(type(watch.read(reader)), tuple)
        watch.deed(("write", 2, 6))
        watch.deed(("write", 2, 7))
        self.assertIs(type(watch.read(reader)), tuple)


class TwoWatches(Watches):
    def test_each_goes_by_itself(self):
        one, other = Watch(TREE, 2), Watch(TREE, 2)
        one.reader()
        one.deed(("drop", 1))
        one.deed(("drop", 3))
        self.assertEqual((other.now(), other.mark(), other.since(0)), (TREE, 0, ()))
        self.refused(NoReader, other.read, 0)
        self.refused(NoMark, other.since, 1)
        self.assertEqual(other.reader(), 0)
        other.deed(("write", 2, 9))
        self.assertEqual((one.now(), one.mark()), ((), 2))
        self.assertEqual(other.read(0), ("change", ((2, (1, "b", 5), (1, "b", 9)),)))
        self.assertEqual(one.read(0), ("change", change_between(TREE, ())))


class ForManyDeeds(unittest.TestCase):
    """Readers that do what they are told, over many deeds, some of them refused."""

    def read(self, watch, most, has, last, number):
        word, what = watch.read(number)
        self.assertEqual(word, "change" if watch.mark() - last[number] <= most else "tree")
        has[number] = applied(has[number], what) if word == "change" else what
        self.assertEqual(has[number], watch.now())
        last[number] = watch.mark()

    def go(self, chance, most):
        numbers, names = tuple(range(1, 9)), "abc"
        watch = Watch((), most)
        has, last, tree, count = [], [], (), 0
        for turn in range(60):
            if chance.randrange(8) == 0:
                self.assertEqual(watch.reader(), len(has))
                has.append(tree)
                last.append(count)
            if has and chance.randrange(2):
                self.read(watch, most, has, last, chance.randrange(len(has)))
            deed = chance_deed(chance, numbers, names)
            try:
                tree = done(tree, deed)
            except TreeError as error:
                with self.assertRaises(type(error)):
                    watch.deed(deed)
            else:
                watch.deed(deed)
                count += 1
            self.assertEqual((watch.now(), watch.mark()), (tree, count))
        for number in range(len(has)):
            self.read(watch, most, has, last, number)
            self.assertEqual(watch.read(number), ("change", ()))

    def test_readers(self):
        chance = random.Random(5)
        for most in (0, 1, 2, 3, 5, 8, 100):
            for turn in range(10):
                self.go(chance, most)

    def test_since(self):
        chance = random.Random(6)
        deeds = chance_deeds(chance, (), tuple(range(1, 9)), "abc", 60)
        trees = trees_on_the_way((), deeds)
        for most in (0, 1, 7, 59, 60, 61):
            watch = Watch((), most)
            for deed in deeds:
                watch.deed(deed)
            for mark in range(61):
                expected = change_between(trees[mark], trees[-1]) if 60 - mark <= most else None
                self.assertEqual(watch.since(mark), expected)

"""What holds over the points of the document together, for larger trees drawn with a fixed seed."""

import random
import unittest

from samples import chance_deeds, chance_tree
from treewatch.changes import applied, change_between, counted, joined, turned_back
from treewatch.deeds import all_done
from treewatch.errors import TreeError
from treewatch.grafting import cut_out, grafted, numbered_by_paths, without
from treewatch.guessing import known_again, renumbered
from treewatch.ignoring import change_seen, is_quiet, seen
from treewatch.ledgers import Ledger, ledger_text, read_ledger
from treewatch.merging import clashing, kept_alike, merged
from treewatch.searching import by_stamps, children, depth_of, first_of_kind, meeting, named, stamped
from treewatch.steps import in_steps
from treewatch.sums import alike_folders, deepest, shape, total
from treewatch.texts import read, written
from treewatch.trees import below, find, is_tree, path_of, walked
from treewatch.watching import Watch

NUMBERS = tuple(range(1, 16))
NAMES = ("a", "b", "ab")


def draws(seed, count):
    chance = random.Random(seed)
    for _ in range(count):
        tree = chance_tree(chance, NUMBERS, NAMES)
        yield chance, tree, chance_deeds(chance, tree, NUMBERS, NAMES, 6)


def folders_of(tree):
    return [0] + [node[0] for node in tree if node[3] is None]


class Whole(unittest.TestCase):
    def test_watches_and_ledgers_go_the_same_way(self):
        for _, tree, deeds in draws(20, 100):
            watch, ledger = Watch(tree, 100), Ledger(tree)
            ledger.tag("a")
            for deed in deeds:
                watch.deed(deed)
                ledger.do(deed)
            self.assertEqual(watch.now(), ledger.now())
            self.assertEqual(watch.since(0), ledger.from_tag("a"))
            self.assertEqual(applied(tree, watch.since(0)), all_done(tree, deeds))
            for count in range(len(deeds), 0, -1):
                ledger.back()
                self.assertEqual(ledger.from_tag("a"), change_between(tree, all_done(tree, deeds[:count - 1])))
                self.assertEqual(joined(ledger.from_tag("a"), watch.since(count - 1)), watch.since(0))

    def test_single_deeds_in_a_ledger(self):
        for _, tree, deeds in draws(21, 60):
            goal = all_done(tree, deeds)
            ledger = Ledger(tree)
            for deed in in_steps(tree, goal):
                ledger.do(deed)
            self.assertEqual(ledger.now(), goal)
            told = read_ledger(ledger_text(ledger))
            self.assertEqual((told.base(), told.now(), told.steps()), (tree, goal, in_steps(tree, goal)))
            while ledger.sizes()[0]:
                ledger.back()
            self.assertEqual(ledger.now(), tree)

    def test_numbers_lost_and_known_again(self):
        for chance, tree, _ in draws(22, 100):
            lost = numbered_by_paths(tree, chance.randrange(1, 50))
            self.assertEqual(renumbered(tree, lost), tree)
            self.assertEqual(len(known_again(tree, lost)), len(tree))
            self.assertEqual(shape(lost, 0), shape(tree, 0))
            self.assertEqual(read(written(lost)), lost)

    def test_what_is_merged(self):
        for chance, first, deeds in draws(23, 150):
            one, other = all_done(first, deeds), all_done(first, chance_deeds(chance, first, NUMBERS, NAMES, 2))
            try:
                both = merged(first, one, other)
            except TreeError:
                self.assertRaises(TreeError, merged, first, other, one)
                continue
            self.assertEqual(merged(first, other, one), both)
            self.assertEqual(clashing(first, one, other), [])
            mine, theirs = change_between(first, one), change_between(first, other)
            self.assertEqual(set(change_between(first, both)), set(mine) | set(theirs))

    def test_cut_and_put(self):
        for _, tree, _ in draws(24, 60):
            for number in folders_of(tree):
                inner, outer = cut_out(tree, number), without(tree, number)
                self.assertEqual(shape(inner, 0), shape(tree, number))
                self.assertEqual(total(inner, 0), total(tree, number))
                self.assertEqual(len(inner) + len(outer), len(tree))
                again = grafted(outer, number, inner)
                self.assertEqual(shape(again, 0), shape(tree, 0))
                self.assertEqual(kept_alike(outer, again), [node[0] for node in outer])

    def test_trees_come_of_trees(self):
        for chance, tree, deeds in draws(25, 60):
            new = all_done(tree, deeds)
            told = [new, seen(tree, ["a"]), renumbered(tree, new), read(written(tree)), numbered_by_paths(tree, 3)]
            told += [applied(new, turned_back(change_between(tree, new))), merged(tree, tree, new)]
            for number in folders_of(tree):
                told += [cut_out(tree, number), without(tree, number), grafted(without(tree, number), number, new)]
            self.assertEqual([is_tree(one) for one in told], [True] * len(told))

    def test_found_and_found_again(self):
        for _, tree, _ in draws(26, 60):
            for path, number in walked(tree):
                self.assertEqual((find(tree, path), depth_of(tree, number)), (number, len(path)))
                self.assertIn(number, named(tree, path[-1]))
                self.assertEqual(meeting(tree, number, number), number)
            self.assertEqual(sorted(sum((children(tree, number) for number in folders_of(tree)), [])), below(tree, 0))
            files = sorted(sum((numbers for _, numbers in by_stamps(tree)), []))
            self.assertEqual(files, stamped(tree, 0, 999))
            self.assertEqual(total(tree, 0)[1], len(files))


class ToldAnew(unittest.TestCase):
    """Lists that were told may be changed by whoever got them."""

    def test_lists(self):
        for _, tree, deeds in draws(27, 20):
            new = all_done(tree, deeds)
            ledger = Ledger(tree)
            for deed in deeds:
                ledger.do(deed)
            ledger.tag("a")
            for tell in (
                lambda: below(tree, 0), lambda: walked(tree), lambda: in_steps(tree, new),
                lambda: known_again(tree, new), lambda: shape(tree, 0), lambda: alike_folders(tree),
                lambda: clashing((), tree, new), lambda: kept_alike(tree, new), lambda: named(tree, "a"),
                lambda: stamped(tree, 0, 999), lambda: by_stamps(tree), lambda: children(tree, 0),
                ledger.steps, ledger.tags,
            ):
                told, once = tell(), tell()
                self.assertIs(type(told), list)
                told.reverse()
                told.append("more")
                self.assertEqual(tell(), once)

    def test_whole_numbers_are_no_truths(self):
        tree = ((1, 0, "a", None), (2, 1, "b", 1), (3, 0, "c", 0))
        told = [path_of(tree, 2), below(tree, 0), total(tree, 0), shape(tree, 0), deepest(tree), depth_of(tree, 1)]
        told += [by_stamps(tree), first_of_kind(tree), counted(change_between((), tree)), Ledger(tree).sizes()]
        told += [numbered_by_paths(tree, 1), read(written(tree)), change_seen((), tree, ["q"]), children(tree, 0)]
        self.assertFalse(self.holds_a_truth(told))
        self.assertIs(is_quiet(tree, tree, []), True)
        self.assertIs(is_quiet(tree, (), []), False)

    def holds_a_truth(self, thing):
        if isinstance(thing, (list, tuple)):
            return any(self.holds_a_truth(part) for part in thing)
        return isinstance(thing, bool)

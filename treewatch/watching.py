"""Watching: a tree with its last changes, and readers that are told each of them once."""

from treewatch.changes import change_between, joined
from treewatch.deeds import done
from treewatch.errors import NoMark, NoReader


class Watch:
    def __init__(self, tree, most):
        self.tree = tree
        self.most = most
        self.deeds_done = 0
        self.kept = []
        self.marks_seen = []

    def deed(self, deed):
        behind = done(self.tree, deed)
        self.kept.append(change_between(self.tree, behind))
        if len(self.kept) > self.most:
            self.kept.pop(0)
        self.tree = behind
        self.deeds_done += 1

    def now(self):
        return self.tree

    def mark(self):
        return self.deeds_done

    def since(self, mark):
        if mark < 0 or mark > self.deeds_done:
            raise NoMark(f"no tree has the mark {mark}")
        # How many kept changes are older than the mark; below 0 where some that are needed are gone.
        older = len(self.kept) - (self.deeds_done - mark)
        if older < 0:
            return None
        whole = ()
        for change in self.kept[older:]:
            whole = joined(whole, change)
        return whole

    def reader(self):
        self.marks_seen.append(self.deeds_done)
        return len(self.marks_seen) - 1

    def read(self, number):
        if number < 0 or number >= len(self.marks_seen):
            raise NoReader(f"no reader has the number {number}")
        change = self.since(self.marks_seen[number])
        self.marks_seen[number] = self.deeds_done
        if change is None:
            return ("tree", self.tree)
        return ("change", change)

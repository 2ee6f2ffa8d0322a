"""Ledgers: a tree with the steps that led to it, which go back and forth, and their texts."""

from treewatch.changes import change_between
from treewatch.deeds import done
from treewatch.errors import NoBack, NoTag, NoText, TreeError
from treewatch.texts import lines_in, number_in, read, written
from treewatch.trees import is_name, is_node, is_stamp

DIVIDER = "--"


class Ledger:
    def __init__(self, tree):
        self.first_tree = tree
        self.tree = tree
        # Never changed, but put in another's stead: kept steps and twins hold it, too.
        self.tag_trees = {}
        # Each a step, with the tree and the tags on its other side.
        self.past = []
        self.ahead = []

    def go_on(self, step, tree, tag_trees):
        self.past.append((step, self.tree, self.tag_trees))
        self.ahead = []
        self.tree = tree
        self.tag_trees = tag_trees

    def do(self, deed):
        self.go_on(deed, done(self.tree, deed), self.tag_trees)

    def tag(self, name):
        if not is_name(name):
            raise NoTag(f"{name!r} is no tag")
        had = name in self.tag_trees
        tag_trees = dict(self.tag_trees)
        tag_trees[name] = self.tree
        self.go_on(("tag", name), self.tree, tag_trees)
        return had

    def tagged(self, name):
        if not is_name(name) or name not in self.tag_trees:
            raise NoTag(f"no tree has the tag {name!r}")
        return self.tag_trees[name]

    def from_tag(self, name):
        return change_between(self.tagged(name), self.tree)

    def tags(self):
        return sorted(self.tag_trees)

    def now(self):
        return self.tree

    def base(self):
        return self.first_tree

    def steps(self):
        return [entry[0] for entry in self.past]

    def pass_over(self, source, target):
        if not source:
            raise NoBack("there is no such step")
        entry = source.pop()
        target.append((entry[0], self.tree, self.tag_trees))
        self.tree = entry[1]
        self.tag_trees = entry[2]
        return entry[0][0]

    def back(self):
        return self.pass_over(self.past, self.ahead)

    def forth(self):
        return self.pass_over(self.ahead, self.past)

    def sizes(self):
        return (len(self.past), len(self.ahead))

    def twin(self):
        other = Ledger(self.first_tree)
        other.tree = self.tree
        other.tag_trees = self.tag_trees
        other.past = list(self.past)
        other.ahead = list(self.ahead)
        return other


def part_text(part):
    return "-" if part is None else str(part)


def step_line(step):
    return " ".join([part_text(part) for part in step]) + "\n"


def ledger_text(ledger):
    lines = [step_line(step) for step in ledger.steps()]
    return written(ledger.base()) + DIVIDER + "\n" + "".join(lines)


def stamp_in(text):
    stamp = number_in(text)
    if not is_stamp(stamp):
        raise NoText(f"{stamp} is no stamp")
    return stamp


def name_in(text):
    if not is_name(text):
        raise NoText(f"{text!r} is no name")
    return text


def make_in(words):
    stamp = None if words[4] == "-" else stamp_in(words[4])
    node = (number_in(words[1]), number_in(words[2]), name_in(words[3]), stamp)
    # A make of the number 0 would not be refused.
    if not is_node(node):
        raise NoText(f"{node} is no node")
    return ("make",) + node


def deed_in(words):
    form = (words[0], len(words))
    if form == ("make", 5):
        return make_in(words)
    if form == ("write", 3):
        return ("write", number_in(words[1]), stamp_in(words[2]))
    if form == ("move", 4):
        return ("move", number_in(words[1]), number_in(words[2]), name_in(words[3]))
    if form == ("drop", 2):
        return ("drop", number_in(words[1]))
    raise NoText(f"{words} is no step")


def do_line(ledger, line):
    words = line.split(" ")
    try:
        if words[0] == "tag" and len(words) == 2:
            ledger.tag(words[1])
        else:
            ledger.do(deed_in(words))
    except TreeError as e:
        raise NoText(f"the step {line!r} can not be done") from e


def read_ledger(thing):
    if not isinstance(thing, str):
        raise NoText("what is no text is no writing of a ledger")
    lines = lines_in(thing)
    if DIVIDER not in lines:
        raise NoText("no line parts the tree from the steps")
    place = lines.index(DIVIDER)
    ledger = Ledger(read("".join([line + "\n" for line in lines[:place]])))
    for line in lines[place + 1:]:
        do_line(ledger, line)
    return ledger

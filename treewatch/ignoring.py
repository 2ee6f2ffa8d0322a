"""Names left out: trees, and changes between them, without what has one of some names in its path."""

from treewatch.changes import change_between
from treewatch.trees import TOP, numbers_inside


def seen(tree, names):
    named_otherwise = [node for node in tree if node[2] not in names]
    # What lies below a node that is left out is not met on the way down from the top.
    met = dict([(number, True) for number in numbers_inside(named_otherwise, TOP)])
    return tuple([node for node in named_otherwise if node[0] in met])


def change_seen(one, other, names):
    return change_between(seen(one, names), seen(other, names))


def is_quiet(one, other, names):
    return seen(one, names) == seen(other, names)

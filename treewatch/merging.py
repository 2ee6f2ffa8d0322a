"""Merging: trees that two have changed, put together."""

from treewatch.changes import applied, change_between
from treewatch.errors import NoMatch
from treewatch.trees import by_number


def entries_by_number(one, other):
    # An entry of a change begins with its number, as a node does.
    return by_number(change_between(one, other))


def clashing(first, one, other):
    mine = entries_by_number(first, one)
    theirs = entries_by_number(first, other)
    return [number for number in sorted(set(mine) & set(theirs)) if mine[number] != theirs[number]]


def merged(first, one, other):
    if clashing(first, one, other):
        raise NoMatch("both have changed a node, and not in the same way")
    mine = entries_by_number(first, one)
    return applied(one, tuple([entry for entry in change_between(first, other) if entry[0] not in mine]))


def kept_alike(one, other):
    others = by_number(other)
    return [node[0] for node in one if others.get(node[0]) == node]

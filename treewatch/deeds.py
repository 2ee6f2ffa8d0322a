"""Deeds: the four ways to change a tree."""

from treewatch.errors import Inside, Known, NotFile, Taken, TreeError
from treewatch.trees import below, by_number, check_folder, node_of


def check_place(tree, number, parent, name):
    for node in tree:
        # A node may be moved to where it stands.
        if node[0] != number and node[1] == parent and node[2] == name:
            raise Taken(f"another node of {parent} has the name {name}")


def with_node(tree, changed):
    return tuple([changed if node[0] == changed[0] else node for node in tree])


def make(tree, number, parent, name, stamp):
    nodes = by_number(tree)
    if number in nodes:
        raise Known(f"a node has the number {number}")
    check_folder(nodes, parent)
    check_place(tree, number, parent, name)
    return tuple(sorted(tree + ((number, parent, name, stamp),)))


def write(tree, number, stamp):
    node = node_of(by_number(tree), number)
    if node[3] is None:
        raise NotFile(f"the node {number} is a folder")
    return with_node(tree, (number, node[1], node[2], stamp))


def move(tree, number, parent, name):
    nodes = by_number(tree)
    node = node_of(nodes, number)
    check_folder(nodes, parent)
    if parent == number or parent in below(tree, number):
        raise Inside(f"the node {parent} is the node {number} or below it")
    check_place(tree, number, parent, name)
    return with_node(tree, (number, parent, name, node[3]))


def drop(tree, number):
    # Below alone would take the top, which is no node to be dropped.
    node_of(by_number(tree), number)
    gone = dict([(inner, True) for inner in below(tree, number)])
    gone[number] = True
    return tuple([node for node in tree if node[0] not in gone])


def done(tree, deed):
    word = deed[0]
    if word == "make":
        return make(tree, deed[1], deed[2], deed[3], deed[4])
    if word == "write":
        return write(tree, deed[1], deed[2])
    if word == "move":
        return move(tree, deed[1], deed[2], deed[3])
    if word == "drop":
        return drop(tree, deed[1])
    raise TreeError(f"no deed has the word {word!r}")


def all_done(tree, deeds):
    now = tree
    for deed in deeds:
        now = done(now, deed)
    return now

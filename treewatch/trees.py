"""Trees of nodes (number, parent, name, stamp), and the paths in them."""

from treewatch.errors import NoNode, NotFolder

TOP = 0
LETTERS = "abcdefghijklmnopqrstuvwxyz"
LONGEST_NAME = 5
GREATEST_STAMP = 999


def is_whole(thing):
    # To Python a truth is an int as well.
    return isinstance(thing, int) and not isinstance(thing, bool)


def is_name(thing):
    if not isinstance(thing, str) or not 1 <= len(thing) <= LONGEST_NAME:
        return False
    # Python's own tests for letters would let in those of other alphabets.
    return all([sign in LETTERS for sign in thing])


def is_stamp(thing):
    return thing is None or (is_whole(thing) and 0 <= thing <= GREATEST_STAMP)


def is_node(thing):
    if not isinstance(thing, tuple) or len(thing) != 4:
        return False
    if not is_whole(thing[0]) or thing[0] < 1:
        return False
    return is_whole(thing[1]) and is_name(thing[2]) and is_stamp(thing[3])


def are_rising(nodes):
    return all([one[0] < other[0] for one, other in zip(nodes, nodes[1:])])


def have_own_places(nodes):
    return len(set([(node[1], node[2]) for node in nodes])) == len(nodes)


def numbers_inside(nodes, folder):
    # A list of what is still to be looked into, not a recursion: folders may lie deep.
    members = {}
    for node in nodes:
        members.setdefault(node[1], []).append(node)
    found = []
    pending = [folder]
    while pending:
        here = members.pop(pending.pop(), [])
        for node in here:
            found.append(node[0])
            if node[3] is None:
                pending.append(node[0])
    return found


def is_tree(thing):
    if not isinstance(thing, tuple) or not all([is_node(part) for part in thing]):
        return False
    if not are_rising(thing) or not have_own_places(thing):
        return False
    # Rings, and nodes whose parent is a file or none, are not met on the way down from the top.
    return len(numbers_inside(thing, TOP)) == len(thing)


def by_number(tree):
    return dict([(node[0], node) for node in tree])


def node_of(nodes, number):
    if number not in nodes:
        raise NoNode(f"no node has the number {number}")
    return nodes[number]


def check_folder(nodes, number):
    if number != TOP and node_of(nodes, number)[3] is not None:
        raise NotFolder(f"the node {number} is a file")


def path_up(nodes, number):
    names = []
    at = number
    while at != TOP:
        names.append(nodes[at][2])
        at = nodes[at][1]
    return tuple(reversed(names))


def path_of(tree, number):
    nodes = by_number(tree)
    node_of(nodes, number)
    return path_up(nodes, number)


def find(tree, path):
    places = dict([((node[1], node[2]), node[0]) for node in tree])
    at = TOP
    for name in path:
        # Once it is None it stays so: None is no node's parent.
        at = places.get((at, name))
    return at


def below(tree, number):
    if number != TOP:
        node_of(by_number(tree), number)
    return sorted(numbers_inside(tree, number))


def walked(tree):
    nodes = by_number(tree)
    return sorted([(path_up(nodes, number), number) for number in nodes])


def walked_nodes(tree):
    nodes = by_number(tree)
    return [(path, nodes[number]) for path, number in walked(tree)]


def greatest_number(tree):
    return max([node[0] for node in tree], default=0)


def with_numbers(tree, numbers):
    # The numbers tell of the top too: a tree that is put into a folder has this one in its stead.
    return tuple(sorted([(numbers[node[0]], numbers[node[1]]) + node[2:] for node in tree]))

"""Nodes found by what they have: names, stamps, places and kinds."""

from treewatch.trees import by_number, check_folder, find, path_of, walked_nodes


def named(tree, name):
    return [node[0] for node in tree if node[2] == name]


def files_of(tree):
    return [node for node in tree if node[3] is not None]


def stamped(tree, low, high):
    return [node[0] for node in files_of(tree) if low <= node[3] <= high]


def by_stamps(tree):
    numbers = {}
    for node in files_of(tree):
        numbers.setdefault(node[3], []).append(node[0])
    return [(stamp, numbers[stamp]) for stamp in sorted(numbers)]


def depth_of(tree, number):
    return len(path_of(tree, number))


def children(tree, number):
    check_folder(by_number(tree), number)
    members = [node for node in tree if node[1] == number]
    return [node[0] for node in sorted(members, key=lambda node: node[2])]


def shared_start(one, other):
    shared = 0
    for name, other_name in zip(one, other):
        if name != other_name:
            break
        shared += 1
    return one[:shared]


def meeting(tree, one, other):
    return find(tree, shared_start(path_of(tree, one), path_of(tree, other)))


def first_of(numbers):
    return numbers[0] if numbers else None


def first_of_kind(tree):
    nodes = [node for path, node in walked_nodes(tree)]
    folders = [node[0] for node in nodes if node[3] is None]
    files = [node[0] for node in files_of(nodes)]
    return (first_of(folders), first_of(files))

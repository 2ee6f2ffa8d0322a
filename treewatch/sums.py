"""Sums: what folders come to, and which of them are alike."""

from treewatch.trees import below, by_number, check_folder, path_up, walked


def total(tree, number):
    nodes = by_number(tree)
    check_folder(nodes, number)
    stamps = [nodes[inner][3] for inner in below(tree, number)]
    of_files = [stamp for stamp in stamps if stamp is not None]
    return (len(stamps) - len(of_files), len(of_files), sum(of_files))


def shape(tree, number):
    nodes = by_number(tree)
    check_folder(nodes, number)
    start = len(path_up(nodes, number))
    return sorted([(path_up(nodes, inner)[start:], nodes[inner][3]) for inner in below(tree, number)])


def deepest(tree):
    # Of several that are longest, max takes the first.
    return max(walked(tree), key=lambda place: len(place[0]), default=((), None))[1]


def members_by_folder(tree):
    members = {}
    for node in tree:
        if node[3] is None:
            members[node[0]] = []
    for node in tree:
        if node[1] in members:
            members[node[1]].append(node)
    return members


def shape_marks(tree):
    # Each shape has a number of its own, so that a folder is told by its members alone: whole shapes grow long.
    members = members_by_folder(tree)
    marks = {}
    known = {}
    for path, number in sorted(walked(tree), key=lambda place: len(place[0]), reverse=True):
        if number in members:
            inner = tuple(sorted([node[2:] + (marks.get(node[0]),) for node in members[number]]))
            marks[number] = known.setdefault(inner, len(known))
    return marks


def alike_folders(tree):
    marks = shape_marks(tree)
    filled = [number for number, inner in members_by_folder(tree).items() if inner]
    alike = {}
    for number in filled:
        alike.setdefault(marks[number], []).append(number)
    couples = []
    for numbers in alike.values():
        for count, one in enumerate(numbers, start=1):
            couples.extend([(one, other) for other in numbers[count:]])
    return sorted(couples)

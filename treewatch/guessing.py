"""Known again: which nodes of two trees are the same, where their numbers do not go together."""

from treewatch.trees import TOP, greatest_number, walked, walked_nodes, with_numbers


def known_by_paths(old, new):
    places = dict(walked_nodes(new))
    couples = []
    for path, node in walked_nodes(old):
        if path in places and (node[3] is None) == (places[path][3] is None):
            couples.append((node[0], places[path][0]))
    return couples


def files_by_stamps(tree, left_out):
    numbers = {}
    for path, node in walked_nodes(tree):
        if node[3] is not None and node[0] not in left_out:
            numbers.setdefault(node[3], []).append(node[0])
    return numbers


def known_by_stamps(old, new, couples):
    waiting = files_by_stamps(old, dict(couples))
    free = files_by_stamps(new, dict([(after, before) for before, after in couples]))
    found = []
    for stamp, numbers in waiting.items():
        # Both stand by their paths, so that each takes the first that those ahead of it left.
        found.extend(list(zip(numbers, free.get(stamp, []))))
    return found


def known_again(old, new):
    couples = known_by_paths(old, new)
    return sorted(couples + known_by_stamps(old, new, couples))


def renumbered(old, new):
    numbers = {TOP: TOP}
    for before, after in known_again(old, new):
        numbers[after] = before
    following = greatest_number(old) + 1
    for path, number in walked(new):
        if number not in numbers:
            numbers[number] = following
            following += 1
    return with_numbers(new, numbers)

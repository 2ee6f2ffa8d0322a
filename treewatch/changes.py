"""Changes: tuples (number, old, new) that tell how one tree becomes another."""

from treewatch.errors import NoMatch
from treewatch.trees import by_number, is_tree

KINDS = ("made", "gone", "written", "moved", "moved and written")


def parts_by_number(tree):
    return dict([(node[0], node[1:]) for node in tree])


def unlike_entries(entries):
    return tuple([entry for entry in entries if entry[1] != entry[2]])


def change_between(one, other):
    before = parts_by_number(one)
    after = parts_by_number(other)
    numbers = sorted(set(before) | set(after))
    return unlike_entries([(number, before.get(number), after.get(number)) for number in numbers])


def turned_back(change):
    return tuple([(number, new, old) for number, old, new in change])


def joined(one, other):
    # An entry begins with its number, as a node does.
    earlier = by_number(one)
    later = by_number(other)
    entries = []
    for number in sorted(set(earlier) | set(later)):
        first = earlier.get(number, later.get(number))
        last = later.get(number, earlier.get(number))
        if number in earlier and number in later and first[2] != last[1]:
            raise NoMatch(f"the second change does not begin where the first one ends at the node {number}")
        entries.append((number, first[1], last[2]))
    return unlike_entries(entries)


def kind_of(old, new):
    if old is None:
        return "made"
    if new is None:
        return "gone"
    if old[:2] == new[:2]:
        return "written"
    if old[2] == new[2]:
        return "moved"
    return "moved and written"


def counted(change):
    kinds = [kind_of(old, new) for number, old, new in change]
    return tuple([kinds.count(kind) for kind in KINDS])


def applied(tree, change):
    parts = parts_by_number(tree)
    for number, old, new in change:
        if parts.get(number) != old:
            raise NoMatch(f"the node {number} is not as the change tells")
        parts[number] = new
    behind = tuple([(number,) + parts[number] for number in sorted(parts) if parts[number] is not None])
    if not is_tree(behind):
        raise NoMatch("what the change leads to is no tree")
    return behind

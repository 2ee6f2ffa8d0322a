"""Single deeds: a way from one tree to another on which each deed may be done."""

from treewatch.deeds import done
from treewatch.errors import NoMatch, TreeError
from treewatch.trees import LETTERS, TOP, by_number


def check_kinds(old, new):
    goal = by_number(new)
    for node in old:
        number = node[0]
        if number in goal and (node[3] is None) != (goal[number][3] is None):
            raise NoMatch(f"the node {number} is a folder in one tree and a file in the other")


def nodes_needed(now, goal):
    # All that stay, and all folders that hold such a node: these can't be dropped as long as they do.
    nodes = by_number(now)
    needed = {}
    for staying in [number for number in nodes if number in goal]:
        at = staying
        while at != TOP and at not in needed:
            needed[at] = True
            at = nodes[at][1]
    return needed


def next_drop(now, goal):
    needed = nodes_needed(now, goal)
    for node in now:
        if node[0] not in needed and (node[1] == TOP or node[1] in goal):
            return ("drop", node[0])
    return None


def placings(now, new):
    nodes = by_number(now)
    deeds = []
    for node in new:
        number = node[0]
        if number not in nodes:
            deeds.append(("make",) + node)
        elif nodes[number][1:3] != node[1:3]:
            deeds.append(("move",) + node[:3])
    return deeds


def is_refused(tree, deed):
    try:
        done(tree, deed)
    except TreeError:
        return True
    return False


def name_at(count):
    # Like counting with 26 figures of which none is a nought: z is followed by aa.
    name = ""
    rest = count
    while rest > 0:
        name = LETTERS[(rest - 1) % len(LETTERS)] + name
        rest = (rest - 1) // len(LETTERS)
    return name


def free_name(now, new):
    taken = dict([(node[2], True) for node in now + new if node[1] == TOP])
    count = 1
    while name_at(count) in taken:
        count += 1
    return name_at(count)


def next_deed(now, new, deeds):
    drop = next_drop(now, by_number(new))
    if drop is not None:
        return drop
    left = placings(now, new)
    for deed in left:
        if not is_refused(now, deed):
            return deed
    # What was moved and is still to be placed can only have been moved aside.
    moved = dict([(deed[1], True) for deed in deeds if deed[0] == "move"])
    for deed in left:
        if deed[0] == "move" and deed[1] not in moved:
            return ("move", deed[1], TOP, free_name(now, new))
    return None


def writes(now, new):
    goal = by_number(new)
    return [("write", node[0], goal[node[0]][3]) for node in now if node[3] != goal[node[0]][3]]


def in_steps(old, new):
    check_kinds(old, new)
    deeds = []
    now = old
    deed = next_deed(now, new, deeds)
    while deed is not None:
        deeds.append(deed)
        now = done(now, deed)
        deed = next_deed(now, new, deeds)
    return deeds + writes(now, new)

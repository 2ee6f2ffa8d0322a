"""Texts: a tree written in lines, and read back."""

from treewatch.errors import NoText
from treewatch.trees import TOP, is_tree, walked_nodes

FIGURES = "0123456789"
MOST_FIGURES = 9


def line_of(path, node):
    number = node[0]
    stamp = node[3]
    place = "".join(["/" + name for name in path])
    return f"{number} {place}/\n" if stamp is None else f"{number} {place} {stamp}\n"


def written(tree):
    return "".join([line_of(path, node) for path, node in walked_nodes(tree)])


def lines_in(text):
    lines = text.split("\n")
    if lines[-1] != "":
        raise NoText("the last line is not ended")
    return lines[:-1]


def number_in(text):
    # Python's own int takes signs, blanks, underscores and other alphabets' figures, too.
    if not 1 <= len(text) <= MOST_FIGURES or not all([sign in FIGURES for sign in text]):
        raise NoText(f"{text!r} is no number")
    if text[0] == "0" and text != "0":
        raise NoText(f"the number {text!r} has a leading 0")
    return int(text)


def parts_in(line):
    words = line.split(" ")
    if len(words) == 2 and words[1].endswith("/"):
        return (number_in(words[0]), words[1][:-1], None)
    if len(words) == 3:
        return (number_in(words[0]), words[1], number_in(words[2]))
    raise NoText(f"{line!r} is no line of a tree")


def nodes_in(lines):
    numbers = {"": TOP}
    nodes = []
    for line in lines:
        parts = parts_in(line)
        place = parts[1].rpartition("/")
        # A folder stands ahead of what lies in it.
        if place[0] not in numbers:
            raise NoText(f"no line ahead of {line!r} tells of its folder")
        nodes.append((parts[0], numbers[place[0]], place[2], parts[2]))
        numbers[parts[1]] = parts[0]
    return nodes


def read(text):
    tree = tuple(sorted(nodes_in(lines_in(text)), key=lambda node: node[0]))
    # The order of the lines, and what a path may be, show in the writing alone.
    if not is_tree(tree) or written(tree) != text:
        raise NoText("the text is not the writing of a tree")
    return tree

"""Trees and deeds for the tests: every tree of a few nodes, and larger ones by chance, the same in each run."""

import itertools

from treewatch.deeds import done
from treewatch.errors import TreeError
from treewatch.trees import is_tree


def every_tree(numbers, names, stamps):
    """All trees whose nodes have these numbers, names and stamps."""
    choices = []
    for number in numbers:
        parents = [0] + [parent for parent in numbers if parent != number]
        choices.append([()] + [((number,) + rest,) for rest in itertools.product(parents, names, stamps)])
    trees = (sum(parts, ()) for parts in itertools.product(*choices))
    return [tree for tree in trees if is_tree(tree)]


def stamp_for(chance, number):
    # By its number a node is always a folder or always a file, so that two trees go together.
    return chance.randrange(3) if number % 3 == 0 else None


def chance_tree(chance, numbers, names):
    tree = ()
    for number in chance.sample(numbers, len(numbers)):
        parent = chance.choice([0] + [node[0] for node in tree])
        try:
            tree = done(tree, ("make", number, parent, chance.choice(names), stamp_for(chance, number)))
        except TreeError:
            pass
    return tree


def chance_deed(chance, numbers, names):
    number, parent, name = chance.choice(numbers), chance.choice((0,) + numbers), chance.choice(names)
    word = chance.choice(("make",) * 5 + ("move",) * 5 + ("write",) * 3 + ("drop",))
    if word == "make":
        return ("make", number, parent, name, stamp_for(chance, number))
    if word == "move":
        return ("move", number, parent, name)
    if word == "write":
        return ("write", number, chance.randrange(3))
    return ("drop", number)


def chance_deeds(chance, tree, numbers, names, count):
    """So many deeds that may be done one behind the other, from the tree on."""
    deeds = []
    while len(deeds) < count:
        deed = chance_deed(chance, numbers, names)
        try:
            tree = done(tree, deed)
        except TreeError:
            continue
        deeds.append(deed)
    return deeds


def do_steps(ledger, steps):
    """The ledger, behind these deeds and tags."""
    for step in steps:
        if step[0] == "tag":
            ledger.tag(step[1])
        else:
            ledger.do(step)
    return ledger


def one_sign_otherwise(text, signs):
    """All texts in which one sign of the text is left out, or one of the signs put in, or put in its stead."""
    texts = []
    for place in range(len(text) + 1):
        texts.append(text[:place] + text[place + 1:])
        texts += [text[:place] + sign + text[place:] for sign in signs]
        texts += [text[:place] + sign + text[place + 1:] for sign in signs]
    return texts

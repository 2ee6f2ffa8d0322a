"""Cut and put: trees cut out of trees, and put into them."""

from treewatch.errors import Taken
from treewatch.trees import TOP, below, by_number, check_folder, greatest_number, have_own_places, walked, with_numbers


def inner_numbers(tree, number):
    check_folder(by_number(tree), number)
    return dict([(inner, True) for inner in below(tree, number)])


def cut_out(tree, number):
    inner = inner_numbers(tree, number)
    numbers = dict([(one, one) for one in inner])
    numbers[number] = TOP
    return with_numbers([node for node in tree if node[0] in inner], numbers)


def without(tree, number):
    inner = inner_numbers(tree, number)
    return tuple([node for node in tree if node[0] not in inner])


def grafted(tree, number, other):
    check_folder(by_number(tree), number)
    greatest = greatest_number(tree)
    numbers = dict([(node[0], node[0] + greatest) for node in other])
    numbers[TOP] = number
    whole = tree + with_numbers(other, numbers)
    if not have_own_places(whole):
        raise Taken(f"a node of {number} has a name that is to be put there")
    return whole


def numbered_by_paths(tree, first):
    numbers = {TOP: TOP}
    for number, place in enumerate(walked(tree), start=first):
        numbers[place[1]] = number
    return with_numbers(tree, numbers)

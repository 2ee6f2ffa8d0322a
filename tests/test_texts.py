import copy
import random
import unittest

from samples import chance_tree, every_tree, one_sign_otherwise
from treewatch.errors import NoText
from treewatch.texts import read, written

# a/       2
# a/b/     5
# a/b/d    1  (stamp 7)
# a/z      7  (stamp 8)
# ab       4  (stamp 0)
# b        3  (stamp 999)
# e/       9, empty
TREE = (
    (1, 5, "d", 7),
    (2, 0, "a", None),
    (3, 0, "b", 999),
    (4, 0, "ab", 0),
    (5, 2, "b", None),
    (7, 2, "z", 8),
    (9, 0, "e", None),
)
TEXT = "2 /a/\n5 /a/b/\n1 /a/b/d 7\n7 /a/z 8\n4 /ab 0\n3 /b 999\n9 /e/\n"


def written_plainly(tree):
    nodes = {node[0]: node for node in tree}
    rows = []
    for number, parent, name, stamp in tree:
        names = [name]
        while parent:
            names.insert(0, nodes[parent][2])
            parent = nodes[parent][1]
        rows.append((names, f"{number} /{'/'.join(names)}" + ("/" if stamp is None else f" {stamp}")))
    return "".join(row + "\n" for _, row in sorted(rows))


class Written(unittest.TestCase):
    def test_without_nodes(self):
        self.assertEqual(written(()), "")

    def test_at_the_top(self):
        self.assertEqual(written(((1, 0, "a", None),)), "1 /a/\n")
        self.assertEqual(written(((3, 0, "abcde", 12),)), "3 /abcde 12\n")
        self.assertEqual(written(((3, 0, "a", 0),)), "3 /a 0\n")

    def test_as_the_document_tells(self):
        self.assertEqual(written(((1, 0, "a", None), (3, 1, "b", 12))), "1 /a/\n3 /a/b 12\n")

    def test_deep_ones(self):
        self.assertEqual(written(TREE), TEXT)

    def test_by_paths_and_not_by_numbers(self):
        tree = ((1, 0, "c", 5), (2, 0, "b", None), (3, 0, "a", 6))
        self.assertEqual(written(tree), "3 /a 6\n2 /b/\n1 /c 5\n")

    def test_by_paths_and_not_as_texts_of_numbers(self):
        tree = ((2, 0, "a", None), (10, 0, "b", None))
        self.assertEqual(written(tree), "2 /a/\n10 /b/\n")

    def test_names_that_begin_with_another_one(self):
        tree = ((1, 0, "ab", None), (2, 0, "a", None), (3, 2, "z", 5), (4, 1, "a", 6), (5, 2, "a", None))
        self.assertEqual(written(tree), "2 /a/\n5 /a/a/\n3 /a/z 5\n1 /ab/\n4 /ab/a 6\n")

    def test_long_numbers(self):
        self.assertEqual(written(((999999999, 0, "a", None),)), "999999999 /a/\n")

    def test_larger_trees(self):
        chance = random.Random(8)
        for _ in range(300):
            tree = chance_tree(chance, tuple(range(1, 20)), ("a", "b", "ab", "abc"))
            self.assertEqual(written(tree), written_plainly(tree))


class Read(unittest.TestCase):
    def refused(self, texts):
        for text in texts:
            with self.subTest(text=text):
                self.assertRaises(NoText, read, text)

    def test_the_empty_text(self):
        self.assertEqual(read(""), ())

    def test_at_the_top(self):
        self.assertEqual(read("1 /a/\n"), ((1, 0, "a", None),))
        self.assertEqual(read("3 /abcde 12\n"), ((3, 0, "abcde", 12),))

    def test_deep_ones(self):
        self.assertEqual(read(TEXT), TREE)

    def test_bounds(self):
        self.assertEqual(read("999999999 /a 999\n"), ((999999999, 0, "a", 999),))
        self.assertEqual(read("100000000 /zzzzz/\n"), ((100000000, 0, "zzzzz", None),))
        self.assertEqual(read("1 /a 0\n"), ((1, 0, "a", 0),))
        self.assertEqual(read("10 /a 100\n"), ((10, 0, "a", 100),))

    def test_kinds_of_what_is_told(self):
        told = read(TEXT)
        self.assertIs(type(told), tuple)
        for node in told:
            self.assertEqual([type(part) for part in node], [int, int, str, type(node[3])])

    def test_what_is_written_for_every_small_tree(self):
        for tree in every_tree((1, 2, 10), ("a", "ab"), (None, 0, 10)):
            self.assertEqual(read(written(tree)), tree)

    def test_what_is_written_for_larger_trees(self):
        chance = random.Random(9)
        for _ in range(300):
            tree = chance_tree(chance, tuple(range(1, 20)), ("a", "b", "ab", "abc"))
            self.assertEqual(read(written(tree)), tree)

    def test_deeper_than_a_recursion_may_go(self):
        chain = tuple((number, number - 1, "a", None) for number in range(1, 1201))
        self.assertEqual(read(written(chain)), chain)

    def test_line_feeds(self):
        self.refused(["1 /a/", "1 /a 5", "1 /a/\n2 /b/", "\n", "\n\n", "\n1 /a/\n", "1 /a/\n\n", "1 /a/\n\n2 /b/\n"])
        self.refused(["1 /a\n/\n", "1\n/a/\n", "1 /a\n5\n", "1 /a/ 2 /b/\n", "1 /a/2 /b/\n"])

    def test_blanks(self):
        self.refused([" 1 /a/\n", "1  /a/\n", "1 /a/ \n", "1/a/\n", " \n", "1 /a /\n", "1 / a/\n"])
        self.refused([" 1 /a 5\n", "1  /a 5\n", "1 /a  5\n", "1 /a 5 \n", "1/a 5\n", "1 /a5\n", "1 / a 5\n"])
        self.refused(["1 /a/\n ", "1 /a/\n 2 /b/\n", "1 /a/\n2 /a/ b/\n", "1 /a/\n2 /a /b/\n", " "])

    def test_parts_left_out_or_too_many(self):
        self.refused(["1\n", "/a/\n", "/a 5\n", "1 \n", "1 5\n", " /a/\n", " /a 5\n", "1 /a \n", "1 /a\n"])
        self.refused(["1 /a 5 5\n", "1 1 /a 5\n", "1 1 /a/\n", "1 /a/ /b/\n", "a\n", "1 /a 5 /\n"])

    def test_numbers(self):
        for number in ("0", "00", "01", "007", "+1", "-1", "--1", "1+", "1-", "1_0", "_1", "1_", "~1", "1~", "x", "1a",
                       "a1", "1.", "1.0", "1e1", "0x1", "''", "1,0", "-0", "+0", "0000000001", "1000000000",
                       "9999999999", "1" * 30, "1" * 6000):
            self.refused([number + " /a/\n", number + " /a 5\n"])

    def test_stamps(self):
        for stamp in ("00", "01", "007", "+1", "-1", "-0", "1_0", "_1", "1_", "~1", "1~", "x", "1a", "1.", "1.0", "1e1",
                      "-", "None", "1000", "1001", "9999", "999999999", "1000000000", "1" * 30, "1" * 6000, "0999"):
            self.refused([f"1 /a {stamp}\n"])

    def test_names(self):
        for name in ("", "abcdef", "A", "aB", "a1", "1", "a-", "a_b", "~", "a.b", "a b", ".", "..", "aaaaaaaaaa", "-",
                     "+", "a+b", "\\", "*", "{", "`"):
            self.refused([f"1 /{name}/\n", f"1 /{name} 5\n", f"1 /a/\n2 /a/{name}/\n", f"1 /a/\n2 /a/{name} 5\n"])

    def test_slashes(self):
        self.refused(["1 a/\n", "1 a 5\n", "1 //a/\n", "1 //a 5\n", "1 /a//\n", "1 /a/ 5\n", "1 /a// 5\n", "1 /\n"])
        self.refused(["1 //\n", "1 / 5\n", "1 // 5\n", "1 /a/\n2 /a//b/\n", "1 /a/\n2 a/b/\n", "1 /a/\n2 /a//b 5\n"])
        self.refused(["1 \\a\\\n", "1 /a\\\n", "1 /\n2 /a/\n", "1 //\n2 //a/\n"])

    def test_a_folder_without_its_last_sign_and_a_file_with_it(self):
        self.refused(["1 /a\n", "1 /a/\n2 /a/b\n", "1 /a\n2 /a/b/\n", "1 /a/ 5\n", "1 /a/\n2 /a/b/ 5\n"])

    def test_out_of_order(self):
        self.refused(["2 /b/\n1 /a/\n", "1 /b/\n2 /a/\n", "2 /a/b 5\n1 /a/\n", "1 /ab 5\n2 /a/\n3 /a/z 6\n"])
        self.refused(["2 /a/\n1 /ab/\n5 /a/z 5\n", "1 /a/\n2 /a/c 5\n3 /a/b 6\n"])

    def test_told_twice(self):
        self.refused(["1 /a/\n1 /a/\n", "1 /a 5\n1 /a 5\n", "1 /a/\n1 /b/\n", "1 /a 5\n1 /b/\n", "1 /a/\n1 /a/b 5\n"])
        self.refused(["1 /a/\n2 /a/\n", "1 /a 5\n2 /a 5\n", "1 /a 5\n2 /a/\n", "1 /a/\n2 /a 5\n", TEXT + TEXT])
        self.refused(["1 /a 5\n1 /a/\n", "1 /a/\n1 /a 5\n", "1 /a 5\n1 /a 6\n"])

    def test_a_folder_that_is_not_told_or_a_file(self):
        self.refused(["2 /a/b/\n", "2 /a/b 5\n", "1 /a/\n2 /a/b/c/\n", "1 /a/\n2 /b/c 5\n"])
        self.refused(["1 /a 5\n2 /a/b/\n", "1 /a 5\n2 /a/b 6\n", "1 /a/\n2 /a/b 5\n3 /a/b/c/\n"])

    def test_other_texts(self):
        self.refused(["-", "--\n", "a", "1", "tree\n", "make 1 0 a -\n", TEXT + "--\n", "~\n", "/\n", "/ \n"])

    def test_one_sign_changed_left_out_or_put_in(self):
        text = "2 /a/\n5 /a/b/\n1 /a/b/d 7\n4 /ab 0\n"
        for other in one_sign_otherwise(text, "\n -/~+_0159abzA."):
            self.is_a_writing_or_refused(other)

    def is_a_writing_or_refused(self, text):
        try:
            tree = read(text)
        except NoText:
            return
        self.assertEqual(written_plainly(tree), text)

    def test_every_short_text(self):
        signs = "\n 01/a"
        texts = [""]
        for _ in range(6):
            texts = [text + sign for text in texts for sign in signs]
            for text in texts:
                self.is_a_writing_or_refused(text)
        read_ones = [text for text in texts if self.reads(text)]
        self.assertEqual(read_ones, ["1 /a/\n"])

    def reads(self, text):
        try:
            read(text)
        except NoText:
            return False
        return True

    def test_what_is_handed_in_stays(self):
        tree = copy.deepcopy(TREE)
        written(tree)
        self.assertEqual(tree, TREE)

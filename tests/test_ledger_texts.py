import random
import unittest

from samples import chance_deeds, chance_tree, do_steps, one_sign_otherwise
from treewatch.deeds import all_done
from treewatch.errors import NoBack, NoText
from treewatch.ledgers import Ledger, ledger_text, read_ledger
from treewatch.texts import written

# a/    2
# a/z   7  (stamp 8)
# b     3  (stamp 9)
TREE = ((2, 0, "a", None), (3, 0, "b", 9), (7, 2, "z", 8))
HEAD = "2 /a/\n7 /a/z 8\n3 /b 9\n--\n"
STEPS = [
    ("make", 4, 2, "ab", None), ("make", 5, 4, "x", 0), ("write", 3, 999), ("tag", "one"), ("move", 7, 0, "q"),
    ("drop", 4), ("tag", "one"),
]
LINES = "make 4 2 ab -\nmake 5 4 x 0\nwrite 3 999\ntag one\nmove 7 0 q\ndrop 4\ntag one\n"


def ledger_of(tree, steps):
    return do_steps(Ledger(tree), steps)


class LedgerText(unittest.TestCase):
    def test_no_nodes_and_no_steps(self):
        self.assertEqual(ledger_text(Ledger(())), "--\n")

    def test_no_steps(self):
        self.assertEqual(ledger_text(Ledger(TREE)), HEAD)

    def test_no_nodes(self):
        self.assertEqual(ledger_text(ledger_of((), [("make", 3, 0, "ab", None)])), "--\nmake 3 0 ab -\n")

    def test_each_word(self):
        self.assertEqual(ledger_text(ledger_of(TREE, STEPS)), HEAD + LINES)
        for step, line in (
            (("make", 4, 0, "ab", None), "make 4 0 ab -"), (("make", 10, 2, "abcde", 12), "make 10 2 abcde 12"),
            (("make", 4, 0, "x", 0), "make 4 0 x 0"), (("write", 3, 7), "write 3 7"), (("write", 7, 0), "write 7 0"),
            (("move", 3, 2, "b"), "move 3 2 b"), (("drop", 2), "drop 2"), (("tag", "one"), "tag one"),
        ):
            self.assertEqual(ledger_text(ledger_of(TREE, [step])), HEAD + line + "\n")

    def test_the_tree_is_the_one_at_first(self):
        self.assertTrue(ledger_text(ledger_of(TREE, [("drop", 2), ("drop", 3)])).startswith(HEAD))

    def test_what_was_taken_back_is_not_written(self):
        ledger = ledger_of(TREE, STEPS)
        ledger.back()
        ledger.back()
        self.assertEqual(ledger_text(ledger), HEAD + "".join(LINES.splitlines(keepends=True)[:5]))
        ledger.forth()
        self.assertEqual(ledger_text(ledger), HEAD + "".join(LINES.splitlines(keepends=True)[:6]))

    def test_it_changes_nothing(self):
        ledger = ledger_of(TREE, STEPS)
        ledger.back()
        ledger_text(ledger)
        self.assertEqual((ledger.steps(), ledger.sizes()), (STEPS[:-1], (6, 1)))


class ReadLedger(unittest.TestCase):
    def agree(self, read, ledger):
        self.assertIsInstance(read, Ledger)
        self.assertEqual(read.base(), ledger.base())
        self.assertEqual(read.now(), ledger.now())
        self.assertEqual(read.steps(), ledger.steps())
        self.assertEqual([type(step) for step in read.steps()], [tuple] * len(ledger.steps()))
        self.assertEqual(read.tags(), ledger.tags())
        for name in ledger.tags():
            self.assertEqual(read.tagged(name), ledger.tagged(name))
        self.assertEqual(read.sizes(), (ledger.sizes()[0], 0))

    def test_no_nodes_and_no_steps(self):
        self.agree(read_ledger("--\n"), Ledger(()))

    def test_no_steps(self):
        self.agree(read_ledger(HEAD), Ledger(TREE))

    def test_each_word(self):
        self.agree(read_ledger(HEAD + LINES), ledger_of(TREE, STEPS))
        for count in range(len(STEPS)):
            lines = "".join(LINES.splitlines(keepends=True)[:count])
            self.agree(read_ledger(HEAD + lines), ledger_of(TREE, STEPS[:count]))

    def test_bounds(self):
        steps = [("make", 999999999, 0, "abcde", None), ("make", 1, 999999999, "x", 999), ("write", 1, 0),
                 ("move", 1, 999999999, "zzzzz"), ("tag", "abcde"), ("drop", 999999999)]
        text = ("--\nmake 999999999 0 abcde -\nmake 1 999999999 x 999\nwrite 1 0\nmove 1 999999999 zzzzz\ntag abcde\n"
                "drop 999999999\n")
        self.agree(read_ledger(text), ledger_of((), steps))

    def test_steps_that_change_nothing(self):
        steps = [("write", 3, 9), ("move", 3, 0, "b"), ("tag", "a"), ("tag", "a")]
        self.agree(read_ledger(HEAD + "write 3 9\nmove 3 0 b\ntag a\ntag a\n"), ledger_of(TREE, steps))

    def test_all_can_be_taken_back_and_none_done_again(self):
        ledger = ledger_of(TREE, STEPS)
        ledger.back()
        told = read_ledger(ledger_text(ledger))
        self.assertRaises(NoBack, told.forth)
        self.assertEqual([told.back() for _ in range(6)], ["drop", "move", "tag", "write", "make", "make"])
        self.assertEqual((told.now(), told.tags()), (TREE, []))
        self.assertRaises(NoBack, told.back)

    def test_each_time_a_new_one(self):
        one, other = read_ledger(HEAD + LINES), read_ledger(HEAD + LINES)
        one.back()
        self.agree(other, ledger_of(TREE, STEPS))

    def test_ledgers_by_chance(self):
        chance = random.Random(16)
        for _ in range(100):
            numbers, names = tuple(range(1, 15)), ("a", "b", "ab")
            tree = chance_tree(chance, numbers, names)
            steps = chance_deeds(chance, tree, numbers, names, 10)
            for _ in range(3):
                steps.insert(chance.randrange(11), ("tag", chance.choice(names)))
            ledger = ledger_of(tree, steps)
            for _ in range(chance.randrange(5)):
                ledger.back()
            told = read_ledger(ledger_text(ledger))
            self.agree(told, ledger)
            self.assertEqual(ledger_text(told), ledger_text(ledger))
            deeds = [step for step in ledger.steps() if step[0] != "tag"]
            self.assertEqual(told.now(), all_done(tree, deeds))


class NoTexts(unittest.TestCase):
    def refused(self, texts):
        for text in texts:
            with self.subTest(text=text):
                self.assertRaises(NoText, read_ledger, text)

    def refused_lines(self, lines):
        self.refused([HEAD + line + "\n" for line in lines])

    def test_what_is_no_text(self):
        self.refused([0, 1, -1, None, True, False, (), [], ("--\n",), ["--\n"], ("a", 1), [None], [[]], TREE])

    def test_the_line_that_parts(self):
        self.refused(["", "\n", HEAD[:-3], "2 /a/\nmake 4 0 x -\n", "make 4 0 x -\n"])
        self.refused(["--\n--\n", HEAD + "--\n", HEAD + LINES + "--\n", "--\n" + HEAD, HEAD + "tag a\n--\ntag b\n"])
        self.refused(["-\n", "---\n", " --\n", "-- \n", "- -\n", "----\n", "-- --\n"])

    def test_line_feeds(self):
        self.refused(["--", HEAD[:-1], HEAD + "tag a", (HEAD + LINES)[:-1]])
        self.refused(["\n--\n", "--\n\n", HEAD + "\n", HEAD + "\ntag a\n", HEAD + "tag a\n\n"])
        self.refused([HEAD + "tag a\n\ntag b\n"])
        self.refused(["2 /a/\n\n--\n", "2 /a/--\n", "2 /a/ --\n", "--tag a\n", "-- tag a\n", HEAD + "tag a tag b\n"])
        self.refused(["--\r\n", "--\n\r\n", HEAD + "tag a\r\n", HEAD + "tag\na\n"])
        self.refused([HEAD + "tag a\x0b", HEAD + "tag a\x85", HEAD + "tag a\x0btag b\n", HEAD + "tag a\u2028tag b\n"])

    def test_a_tree_that_is_no_writing(self):
        for tree in ("2 /a\n", "02 /a/\n", "3 /b 9\n2 /a/\n", "7 /a/z 8\n", "2 /a/\n2 /b/\n", "0 /a/\n", "1 /a 1000\n",
                     "2 /A/\n", "2  /a/\n", "x\n", "-\n", " \n", "1000000000 /a/\n", "2 /abcdef/\n"):
            self.refused([tree + "--\n", tree + "--\ntag a\n"])

    def test_a_word_that_is_none(self):
        self.refused_lines(["", "a", "tags a", "Tag a", "TAG a", "mak 4 0 x -", "do 3", "back", "forth", "write3 7"])
        self.refused_lines(["make", "write", "move", "drop", "tag", "--tag a", "make_ 4 0 x 3", "None", "undo 3"])
        self.refused_lines(["- 3", "3", "take 3", "make 3", "drop 4 0 x 3", "write 3 0 q", "move 3 7", "tag 3"])

    def test_too_few_parts(self):
        self.refused_lines(["make 4 0 x", "make 4 0 -", "make 4 x 3", "write 3", "write 7", "move 3 0", "move 3 q"])

    def test_too_many_parts(self):
        self.refused_lines(["make 4 0 x - -", "make 4 0 x 3 3", "write 3 7 7", "write 3 7 -", "move 3 0 q q",
                            "move 3 0 q 9", "drop 3 3", "drop 3 -", "tag a b", "tag a -"])

    def test_blanks(self):
        for line in ("make 4 0 x -", "make 4 0 x 3", "write 3 7", "move 3 0 q", "drop 3", "tag a"):
            places = [place for place, sign in enumerate(line) if sign == " "]
            self.refused_lines([" " + line, line + " "])
            self.refused_lines([line[:place] + " " + line[place:] for place in places])
            self.refused_lines([line[:place] + line[place + 1:] for place in places])
            self.refused_lines([line[:place] + "\t" + line[place + 1:] for place in places])

    def test_numbers(self):
        for number in ("03", "003", "+3", "-3", "3_", "_3", "3_0", "~3", "3-", "3.", "3.0", "0x3", "3a", "x", "-", "",
                       "None", "\u0663", "\u00b3", "\uff13", "0000000003", "1000000000", "1234567890", "3" * 5000):
            self.refused_lines([f"write {number} 7", f"move {number} 0 q", f"drop {number}"])
        for number in ("04", "+4", "-4", "4_", "4_0", "~4", "-", "", "x", "None", "\u0664", "0000000004", "1000000000",
                       "4" * 5000):
            self.refused_lines([f"make {number} 0 x -", f"make {number} 0 x 3"])
        for parent in ("02", "00", "+2", "-2", "+0", "-0", "2_", "~2", "-", "", "x", "None", "\u0662", "0000000002",
                       "1000000000", "2" * 5000):
            self.refused_lines([f"make 4 {parent} x -", f"make 4 {parent} x 3", f"move 3 {parent} q"])

    def test_a_make_of_the_number_0(self):
        self.refused_lines(["make 0 0 x -", "make 0 0 x 3", "make 0 2 x 3", "make 00 0 x 3", "make -1 0 x 3"])
        self.refused(["--\nmake 0 0 x -\n"])

    def test_names(self):
        for name in ("", "abcdef", "A", "aB", "a1", "1", "-", "a-b", "a_b", "~", "/", "a/b", "\u00e4", "\u0430", ".",
                     "\uff41", "a" * 100):
            self.refused_lines([f"make 4 0 {name} -", f"make 4 0 {name} 3", f"move 3 0 {name}", f"tag {name}"])

    def test_stamps(self):
        for stamp in ("1000", "1001", "9999", "999999999", "1000000000", "00", "07", "+7", "-7", "-0", "7_", "1_0",
                      "~7", "x", "", "--", "None", "\u0667", "7" * 5000, "0007"):
            self.refused_lines([f"make 4 0 x {stamp}", f"write 3 {stamp}"])
        self.refused_lines(["write 3 -"])

    def test_steps_that_can_not_be_done(self):
        self.refused_lines(["make 2 0 x -", "make 3 0 x 3", "make 4 0 a -", "make 4 2 z 3", "make 4 3 x 3"])
        self.refused_lines(["write 2 7", "write 4 7", "write 0 7", "move 4 0 q", "move 0 0 q", "move 0 2 q"])
        self.refused_lines(["move 3 7 q", "move 2 2 q", "move 7 0 a", "drop 4", "drop 0"])
        self.refused(["--\nmake 1 0 a -\nmake 2 1 b -\nmove 1 2 c\n"])

    def test_a_parent_that_is_none(self):
        self.refused_lines(["make 4 8 x -", "make 4 8 x 3", "make 4 4 x -", "move 3 8 q", "move 3 4 q"])

    def test_steps_that_can_not_be_done_any_more(self):
        self.refused([HEAD + "drop 3\nwrite 3 7\n", HEAD + "drop 2\nwrite 7 7\n"])
        self.refused([HEAD + "make 4 0 x 3\nmake 4 0 y 3\n", HEAD + "make 4 0 x 3\nmake 5 0 x 3\n"])
        self.refused([HEAD + "drop 3\ndrop 3\n", HEAD + "make 4 0 x 3\nmake 5 4 y 3\n"])

    def test_one_sign_changed_left_out_or_put_in(self):
        text = "2 /a/\n3 /b 9\n--\nmake 4 2 ab -\nwrite 3 10\nmove 4 0 c\ntag one\ndrop 2\n"
        self.assertEqual(ledger_text(read_ledger(text)), text)
        for other in one_sign_otherwise(text, "\n -/~+_0149abzA."):
            self.is_a_writing_or_refused(other)

    def is_a_writing_or_refused(self, text):
        try:
            ledger = read_ledger(text)
        except NoText:
            return
        rows = [" ".join("-" if part is None else str(part) for part in step) for step in ledger.steps()]
        self.assertEqual(written(ledger.base()) + "--\n" + "".join(row + "\n" for row in rows), text)

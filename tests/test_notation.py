"""Promises 22 and 23: writing and reading trees."""

import itertools
import random
import unittest

from plainask import notation
from plainask.deciding import shortest_tree
from plainask.errors import AskError, BadRow
from plainask.notation import read_tree, write_tree
from plainask.trees import Tree
from tests.judge import places
from tests.samples import chain, grid, plain_rule, plain_rules

GREAT = 10 ** 30 - 1

# The rows of trees with their texts.
TEXTS = [
    (("end", 0), "end 0"),
    (("end", 30), "end 30"),
    (("ask", 0, (((0, 2), ("end", 3)), ((1,), ("end", 0)))), "ask 0: 0 2 / 1\nend 3\nend 0"),
    (("ask", 12, (((7,), ("end", 1)), ((0, 3, 10), ("end", 1)), ((5,), ("end", 1)))),
     "ask 12: 7 / 0 3 10 / 5\nend 1\nend 1\nend 1"),
    (("ask", 1, (
        ((2,), ("ask", 0, (((1,), ("end", 5)), ((0,), ("ask", 1, (((9,), ("end", 6)), ((8,), ("end", 7)))))))),
        ((0, 1), ("ask", 0, (((0,), ("end", 8)), ((1,), ("end", 9))))),
    )), "ask 1: 2 / 0 1\nask 0: 1 / 0\nend 5\nask 1: 9 / 8\nend 6\nend 7\nask 0: 0 / 1\nend 8\nend 9"),
    (("ask", GREAT, (((GREAT - 1, GREAT), ("end", GREAT)), ((0,), ("end", 10 ** 29)))),
     f"ask {GREAT}: {GREAT - 1} {GREAT} / 0\nend {GREAT}\nend {10 ** 29}"),
]

# Rows that are neither an end nor a question.
BAD_ENDS = """end|end |end  0|end 0 | end 0|end 0 0|end -1|end +1|end 00|end 01|end 0x1|end 1.0|end 1_0|end a|End 0|END 0
end0|end:0|end: 0|end\t0|end 0\t|\tend 0|end 0,|end 0.|ends 0|end  |endd 0|end one|end 1 2|end True|end None|end /
end ask 0: 0 / 1|the end 0|0|end 0 / 1|end 0:|end (0)|end 1e3|end -0|end +0|e nd 0|end !|end ~""".replace("\n", "|")
BAD_QUESTIONS = """ask|ask |ask 0|ask 0:|ask 0: |ask 0: 0|ask 0: 0 1|ask 0: 0 /|ask 0: 0 / |ask 0: / 0|ask 0:  / 0|ask 0: /
ask 0: 0 / 1 |ask 0: 0 / 1 /| ask 0: 0 / 1|ask  0: 0 / 1|ask 0 : 0 / 1|ask 0:0 / 1|ask 0:  0 / 1|ask 0: 0  / 1
ask 0: 0 /  1|ask 0: 0/ 1|ask 0: 0 /1|ask 0: 0/1|ask 0: 0 // 1|ask 0: 0 / / 1|ask 0: 0 /  / 1|ask 0: 0  1 / 2
ask 0: 0 / 0|ask 0: 0 1 / 1|ask 0: 0 0 / 1|ask 0: 0 / 1 1|ask 0: 1 0 / 2|ask 0: 0 / 2 1|ask 0: 0 2 1 / 3
ask 0: 0 / 1 / 0|ask 0: 2 / 1 / 2|ask 0: 0 3 / 1 / 2 3|ask 0: 00 / 1|ask 0: 0 / 01|ask 0: 0 01 / 2|ask 00: 0 / 1
ask 01: 0 / 1|ask -1: 0 / 1|ask +1: 0 / 1|ask 0: -1 / 1|ask 0: 0 / +1|ask a: 0 / 1|ask 0: a / 1|ask 0: 0 / b|ask : 0 / 1
ask: 0 / 1|ask 0; 0 / 1|ask 0:: 0 / 1|ask 0: : 0 / 1|ask 0: 0: 0 / 1|Ask 0: 0 / 1|ASK 0: 0 / 1|ask0: 0 / 1|asks 0: 0 / 1
ask 0: 0 | 1|ask 0: 0, 1 / 2|ask 0: 0 \\ 1|ask 0: 0 - 1|ask 0: (0) / 1|ask 0: 0 / 1.|ask 0: 0 / 1.0|ask 0: 0 / 1_0
ask 0\t: 0 / 1|ask 0: 0\t/ 1|ask\t0: 0 / 1|ask 0: 0 / 1\t|ask 0 1: 0 / 1|ask 0/1: 0 / 1|end 0: 0 / 1|0: 0 / 1""".replace(
    "\n", "|")
# Characters that Python takes for digits, for spaces or for line ends.
STRANGE = ["\u0663", "\u00b2", "\u2460", "\uff11", "\u0e53", "\u4e8c", "\u00bd", "\u00a0", "\u3000", "\u2028", "\u2029",
           "\x85", "\x0b", "\x0c", "\x1c", "\x1d", "\x1e", "\r", "\t", "\x00", "\x7f", "\xe9"]


def chain_text(questions):
    rows = []
    for standing in range(questions):
        more = " ".join(str(other) for other in range(standing + 1, questions + 1))
        rows += [f"ask 0: {standing} / {more}", f"end {standing}"]
    return "\n".join([*rows, f"end {questions}"])


def expected_text(rows):
    """Point 22, word by word."""
    if rows[0] == "end":
        return "end " + str(rows[1])
    head = "ask " + str(rows[1]) + ": " + " / ".join(" ".join(map(str, sorted(cell))) for cell, _ in rows[2])
    return "\n".join([head, *(expected_text(behind) for _, behind in rows[2])])


class BothWaysTests(unittest.TestCase):
    def check(self, rows, text):
        tree = Tree(rows)
        self.assertEqual(write_tree(tree), text)
        self.assertIs(type(write_tree(tree)), str)
        self.assertEqual(tree.rows, Tree(rows).rows)
        found = read_tree(text)
        self.assertIs(type(found), Tree)
        self.assertEqual(found.rows, tree.rows)
        self.assertEqual(found.length, tree.length)

    def test_by_hand(self):
        for rows, text in TEXTS:
            self.check(rows, text)
            self.assertEqual(write_tree(tree=read_tree(text=text)), text)

    def test_cells_are_written_in_ascending_order(self):
        rows = ("ask", 0, (((10, 9, 2), ("end", 0)), ((3, 1), ("end", 1))))
        self.assertEqual(write_tree(Tree(rows)), "ask 0: 2 9 10 / 1 3\nend 0\nend 1")

    def test_branches_in_any_order(self):
        for order in itertools.permutations([(0, 4), (1,), (2, 3)]):
            rows = ("ask", 2, tuple((cell, ("end", sum(cell))) for cell in order))
            self.check(rows, expected_text(rows))
            self.assertEqual([cell for cell, _ in read_tree(write_tree(Tree(rows))).rows[2]], list(order))

    def test_plain_trees(self):
        for rule in plain_rules():
            rows = shortest_tree(rule).rows
            self.check(rows, expected_text(rows))
        for seed in range(6):
            rows = plain_rule(seed, (8, 8, 9), 60, seed % 2 == 1)[1]
            self.check(rows, expected_text(rows))

    def test_a_chain_of_a_hundred_questions(self):
        self.check(chain(100), chain_text(100))
        self.check(chain(150), chain_text(150))

    def test_1200_ends(self):
        for first, second in ((30, 40), (2, 600), (600, 2)):
            rows = grid(first, second)
            self.check(rows, expected_text(rows))

    def test_thirty_digits(self):
        source = random.Random(3)
        for _ in range(50):
            one, other, party, outcome = [source.randrange(10 ** 29, 10 ** 30) for _ in range(4)]
            self.check(("ask", party, (((other,), ("end", outcome)), ((one,), ("end", 0)))),
                       f"ask {party}: {other} / {one}\nend {outcome}\nend 0")

    def test_numbers_with_zeros_in_them(self):
        self.check(("ask", 10, (((0, 100), ("end", 1000)), ((101,), ("end", 20)))),
                   "ask 10: 0 100 / 101\nend 1000\nend 20")


class BadRowTests(unittest.TestCase):
    def refuse(self, text, row):
        with self.assertRaises(BadRow, msg=repr(text)) as caught:
            read_tree(text)
        self.assertEqual(caught.exception.row, row, repr(text))
        self.assertIsInstance(caught.exception, AskError)

    def refuse_row(self, row):
        """Check that the row is refused wherever it stands."""
        self.refuse(row, 1)
        self.refuse(row + "\nend 0\nend 1", 1)
        self.refuse("ask 0: 0 / 1\n" + row, 2)
        self.refuse("ask 0: 0 / 1\n" + row + "\nend 1", 2)
        self.refuse("ask 0: 0 / 1\nend 0\n" + row, 3)
        self.refuse("ask 0: 0 / 1\nask 0: 0 / 2\nend 4\n" + row + "\nend 0", 4)
        self.refuse("end 0\n" + row, 2)

    def test_the_example_of_the_document(self):
        self.refuse("ask 0: 0 2 / 1\nend 3", 3)

    def test_rows_that_have_none_of_the_forms(self):
        for row in [*BAD_ENDS.split("|"), *BAD_QUESTIONS.split("|"), "ask 0: 0 | 1", "", " ", "#", "end 0 # 1"]:
            self.refuse_row(row)

    def test_any_change_of_a_good_row(self):
        for good in ("end 10", "ask 2: 3 / 0"):
            for at in range(len(good) + 1):
                for sign in " /:.-+_x":
                    self.refuse_row(good[:at] + sign + good[at:])
            for at, sign in enumerate(good):
                if sign in " /:aske":
                    self.refuse_row(good[:at] + good[at + 1:])

    def test_other_digits_spaces_and_line_ends(self):
        for strange in STRANGE:
            for row in ("end *", "end 1*", "end *1", "end 1*2", "end*1", "*end 1", "ask *: 0 / 1", "ask 1*: 0 / 1",
                        "ask 0: * / 1", "ask 0: 0 / *", "ask 0: 0 / 1*", "ask 0: 0 /*1", "ask 0:*0 / 1",
                        "ask 0: 0*1 / 2", "ask*0: 0 / 1", "ask 0*: 0 / 1", "*ask 0: 0 / 1", "*"):
                self.refuse_row(row.replace("*", strange))
            self.refuse("ask 0: 0 / 1" + strange + "end 0" + strange + "end 1", 1)
            self.refuse("ask 0: 0 / 1\nend 0" + strange + "end 1", 2)
            self.refuse("end 0" + strange, 1)
        self.refuse("ask 0: 0 / 1\r\nend 0\r\nend 1", 1)

    def test_the_empty_text_and_empty_rows(self):
        self.refuse("", 1)
        self.refuse("\n", 1)
        self.refuse("\nend 0", 1)
        self.refuse("ask 0: 0 / 1\n\nend 0\nend 1", 2)
        self.refuse("ask 0: 0 / 1\nend 0\n\nend 1", 3)

    def test_a_newline_at_the_end(self):
        for rows, text in TEXTS:
            many = text.count("\n") + 1
            self.refuse(text + "\n", many + 1)
            self.refuse(text + "\n\n", many + 1)
        self.refuse("ask 0: 0 / 1\nend 0\n", 3)

    def test_rows_that_are_missing_at_the_end(self):
        for text in [*(text for _, text in TEXTS), chain_text(20), expected_text(grid(3, 4))]:
            rows = text.split("\n")
            for many in range(1, len(rows)):
                self.refuse("\n".join(rows[:many]), many + 1)

    def test_rows_that_are_missing_in_between(self):
        for text in (TEXTS[2][1], TEXTS[4][1], chain_text(10)):
            rows = text.split("\n")
            for at in range(1, len(rows)):
                if rows[at].startswith("end"):
                    self.refuse("\n".join(rows[:at] + rows[at + 1:]), len(rows))

    def test_rows_behind_a_complete_tree(self):
        for rows, text in TEXTS:
            many = text.count("\n") + 1
            for more in ("end 0", "ask 0: 0 / 1", "ask 0: 0 / 1\nend 0\nend 1", "nonsense", " "):
                self.refuse(text + "\n" + more, many + 1)

    def test_the_first_of_several_bad_rows(self):
        self.refuse("ask 0: 0 / 1\nend 0\nend x\nend y\n", 3)
        self.refuse("ask 0: 0 / 1\nend 0\nend 1\nend x\nend y", 4)
        self.refuse("x\ny", 1)

    def test_every_row_of_a_great_tree(self):
        text = expected_text(grid(30, 40))
        rows = text.split("\n")
        for at in (0, 1, 2, 41, 42, 600, len(rows) - 1):
            self.refuse("\n".join([*rows[:at], rows[at] + " ", *rows[at + 1:]]), at + 1)
        rows = chain_text(100).split("\n")
        for at in (0, 1, 100, 199, 200):
            self.refuse("\n".join([*rows[:at], rows[at].replace(" ", "  "), *rows[at + 1:]]), at + 1)

    def test_random_texts(self):
        source = random.Random(23)
        for _ in range(3000):
            text = "".join(source.choice("end ask 0123:/\n") for _ in range(source.randint(0, 12)))
            row = source.choice(["end 0", "ask 0: 0 / 1\nend 1\nend 2"])
            at = source.randint(0, len(row))
            mixed = row[:at] + text + row[at:]
            try:
                rows = read_tree(mixed).rows
            except BadRow as error:
                self.assertLessEqual(error.row, mixed.count("\n") + 2)
            else:
                self.assertEqual(expected_text(rows), mixed)


class InterfaceTests(unittest.TestCase):
    def test_defined_in_the_file(self):
        for name in ("write_tree", "read_tree"):
            self.assertEqual(getattr(notation, name).__module__, "plainask.notation")

    def test_reading_keeps_no_memory(self):
        for _ in range(2):
            for rows, text in TEXTS:
                self.assertEqual(read_tree(text).rows, rows)
                self.assertEqual(len(places(rows)), text.count("\n") + 1)
            with self.assertRaises(BadRow):
                read_tree("ask 0: 0 / 1")


if __name__ == "__main__":
    unittest.main()

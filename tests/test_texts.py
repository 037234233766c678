"""Templates as texts (points 6 and 7)."""

import random
import unittest

from templates.errors import BadTemplate, NotText
from templates.texts import read, write
from tests.tools import ODD, check_any_value, check_bad, shown, some_relations, some_template, told

SIX = "\nrelation 1 0" * 6


class WriteTest(unittest.TestCase):

    def test_by_hand(self):
        self.assertEqual(write((2, ((2, ((0, 1), (1, 0))), (1, ((1,),))))), "size 2\nrelation 2 01 10\nrelation 1 1")
        self.assertEqual(write((4, ())), "size 4")
        self.assertEqual(write((1, ((4, ()), (3, ((0, 0, 0),))))), "size 1\nrelation 4\nrelation 3 000")
        self.assertEqual(write((4, ((1, ((0,), (3,))), (2, ((3, 2),))))), "size 4\nrelation 1 0 3\nrelation 2 32")

    def test_wrong_values(self):
        check_bad(self, write, [None], 0, [None, 2, "size 2", (2,), [2, ()], (2, (1,) * 7)], BadTemplate, {"index": None})
        check_bad(self, write, [None], 0, [(2, ((1, ()), (1, [])))], BadTemplate, {"index": 1})


class ReadTest(unittest.TestCase):

    def test_what_write_gives(self):
        chance = random.Random(1)
        for _ in range(200):
            template = some_template(chance.randint(1, 4), chance, 20)
            self.assertEqual(read(write(template)), template)
        for size in range(1, 5):
            for arity in range(1, 5):
                for relation in some_relations(size, arity, chance):
                    self.assertEqual(read(write((size, (relation,)))), (size, (relation,)))
        self.assertEqual(read("size 1" + SIX), (1, ((1, ((0,),)),) * 6))

    def test_further_spaces_and_another_order(self):
        chance = random.Random(2)
        for _ in range(200):
            template = some_template(chance.randint(1, 4), chance, 20)
            self.assertEqual(read(self.loosened(write(template), chance)), template)
        self.assertEqual(read("  size   3  \n relation  2   21 00 10  "), (3, ((2, ((0, 0), (1, 0), (2, 1))),)))

    def loosened(self, text, chance):
        lines = []
        for line in text.split("\n"):
            words = line.split(" ")
            rows = words[2:]
            chance.shuffle(rows)
            words = words[:2] + rows
            gaps = [" " * chance.randint(1, 4) for _ in words]
            lines.append(" " * chance.randint(0, 3) + "".join(word + gap for word, gap in zip(words, gaps)))
        return "\n".join(lines)

    def test_no_string(self):
        odd = [value for value in ODD if not isinstance(value, str)]
        check_bad(self, read, [None], 0, odd + [b"size 2", ("size 2",), ["size 2"]], NotText)

    def check_places(self, texts, line, word):
        for text in texts:
            with self.subTest(text=text):
                self.assertEqual(told(read, text), ("InvalidText", {"line": line, "word": word}))

    def test_first_line(self):
        self.check_places(["", " ", "    ", "\n", "\nsize 2", " \nsize 2"], 1, 1)
        self.check_places(["size2", "Size 2", "sizes 2", "2", "relation 1 0", "x", "x y z", "\tsize 2", "size\t2", "2 size",
                           "\u00a0size 2", "size\r", "\ufeffsize 2"], 1, 1)
        self.check_places(["size", " size ", "size\nrelation 1 0", "size  \nx"], 1, 2)
        self.check_places(["size 0", "size 5", "size 02", "size 00", "size -1", "size +2", "size 2.0", "size x", "size 10",
                           "size 2\r", "size 2\t", "size \u0662", "size \u00b2", "size 2,", "size size", "size 5 6",
                           "size 22", "size True"], 1, 2)
        self.check_places(["size 2 2", "size 2 x", "size  2   relation 1 0", "size 2 3 4", "size 2 \r"], 1, 3)

    def test_beginning_of_a_later_line(self):
        self.check_places(["size 2\n", "size 2\n  ", "size 2\n\nrelation 1 0", "size 2\nrelations 1", "size 2\nx",
                           "size 2\nsize 2", "size 2\n1 0", "size 2\nRelation 1 0", "size 2\n\trelation 1"], 2, 1)
        self.check_places(["size 2\nrelation 1 0\n", "size 2\nrelation 1 0\nrelation\t1"], 3, 1)

    def test_arity(self):
        self.check_places(["size 2\nrelation", "size 2\nrelation  ", "size 2\nrelation\nrelation 1"], 2, 2)
        self.check_places(["size 2\nrelation 0", "size 2\nrelation 5", "size 2\nrelation 01 0", "size 2\nrelation x",
                           "size 2\nrelation -1", "size 2\nrelation 1\r", "size 2\nrelation 1.", "size 2\nrelation 11",
                           "size 2\nrelation \u0661 0", "size 2\nrelation relation 1"], 2, 2)

    def test_rows(self):
        self.check_places(["size 2\nrelation 2 02", "size 2\nrelation 2 0", "size 2\nrelation 2 000", "size 2\nrelation 2 x1",
                           "size 2\nrelation 2 0, 01", "size 2\nrelation 2 -1", "size 2\nrelation 1 \u0660",
                           "size 1\nrelation 1 1", "size 3\nrelation 4 0123", "size 2\nrelation 1 \r"], 2, 3)
        self.check_places(["size 2\nrelation 2 01 02", "size 2\nrelation 2 01 01", "size 2\nrelation 2 01 1 0",
                           "size 4\nrelation 2 01 04 04", "size 2\nrelation  2  01  01 01"], 2, 4)
        self.check_places(["size 2\nrelation 1 0 1 0 1", "size 2\nrelation 1 0 1 1"], 2, 5)
        self.check_places(["size 2\nrelation 1\nrelation 1 0 0"], 3, 4)

    def test_a_seventh_relation(self):
        self.check_places(["size 1" + SIX + "\nrelation 1 0", "size 1" + SIX + "\n", "size 1" + SIX + "\nx",
                           "size 1" + SIX + "\nrelation 7 0", "size 1" + SIX + "\nrelation", "size 1" + SIX * 2], 8, 1)
        self.check_places(["size 1" + SIX[:-1] + "1\nrelation 1 0"], 7, 3)

    def test_the_first_line_and_its_first_word(self):
        self.check_places(["size 9 9\nx", "size 9"], 1, 2)
        self.check_places(["size 2\nrelation 9 9\nx", "size 2\nrelation 9 0 0"], 2, 2)
        self.check_places(["size 2\nrelation 2 3 00 00"], 2, 3)
        self.check_places(["size 2\nrelation 2 00 00 3"], 2, 4)

    def test_an_empty_line_at_the_end(self):
        self.check_places(["size 2\nrelation 1 0\nrelation 1 1\n"], 4, 1)

    def test_any_value(self):
        check_any_value(self, read, ["size 2"])
        check_any_value(self, write, [(2, ((1, ((0,),)),))])

    def test_any_text(self):
        chance = random.Random(3)
        words = ["size", "relation", "0", "1", "2", "01", "10", "00", " ", "\n", "\n", " relation 2", "5", "x", "\t", ""]
        for _ in range(3000):
            text = "size 2" * chance.randint(0, 1) + " ".join(chance.choice(words) for _ in range(chance.randint(0, 9)))
            with self.subTest(text=shown(text)):
                kind, said = told(read, text)
                self.assertIn(kind, ("answer", "InvalidText"))
                if kind == "answer":
                    self.assertEqual(read(write(said)), said)
                else:
                    self.check_first_fault(text, said["line"], said["word"])

    def check_first_fault(self, text, line, word):
        """Lines ahead of the fault can be read, and what stands behind it does not matter."""
        lines = text.split("\n")
        if line > 1:
            read("\n".join(lines[:line - 1]))
        words = [part for part in lines[line - 1].split(" ") if part]
        self.assertLessEqual(word, len(words) + 1)
        if word <= len(words):
            cut = "\n".join(lines[:line - 1] + [" ".join(words[:word])])
            self.assertEqual(told(read, cut), ("InvalidText", {"line": line, "word": word}))


if __name__ == "__main__":
    unittest.main()

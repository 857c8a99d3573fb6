import unittest

from fademill.errors import BadLine, BadNumber, BadProgram, BadString
from fademill.milltexts import read_machine, read_program, write_machine, write_program
from fademill.writing import kept
from tests import junk, plain, plain_texts

NO_STRINGS = tuple(value for value in junk.VALUES if not isinstance(value, str))


class Texts(unittest.TestCase):
    def cannot(self, line, place, call, *arguments):
        with self.assertRaises(BadLine, msg=arguments) as caught:
            call(*arguments)
        self.assertEqual((caught.exception.line, caught.exception.place), (line, place), arguments)


class Machines(Texts):
    def test_the_example(self):
        self.assertEqual(read_machine("cell 3 0\ncell 2 1"), ((3, 2), (0, 1)))
        self.cannot(1, 2, read_machine, "cell 9 0")

    def test_written_ones(self):
        self.assertEqual(write_machine(((3,), (0,))), "cell 3 0")
        self.assertEqual(write_machine(((1, 8, 2, 5), (0, 1, 0, 2))), "cell 1 0\ncell 8 1\ncell 2 0\ncell 5 2")

    def test_any_number_of_spaces_and_void_lines(self):
        for text in ("cell 3 0\ncell 2 0", "  cell   3 0  \n\n   \ncell 2  0\n", "\n\ncell 3 0\ncell 2 0\n\n \n"):
            self.assertEqual(read_machine(text), ((3, 2), (0, 0)))

    def test_without_a_cell(self):
        for text, line in (("", 2), ("\n", 3), ("   ", 2), (" \n\n  ", 4)):
            self.cannot(line, 1, read_machine, text)

    def test_a_fifth_cell(self):
        four = "cell 3 0\n" * 4
        self.assertEqual(read_machine(four), ((3, 3, 3, 3), (0, 0, 0, 0)))
        self.assertEqual(read_machine("\n" + four + "\n"), ((3, 3, 3, 3), (0, 0, 0, 0)))
        for fifth in ("cell 3 0", "cell", "cell 9", "sing"):
            self.cannot(5, 1, read_machine, four + fifth)
            self.cannot(7, 1, read_machine, four + "\n \n" + fifth)
        # What is wrong further up comes first.
        self.cannot(2, 3, read_machine, "cell 3 0\ncell 3 2\n" + four)

    def test_words_that_cannot_stand_and_those_that_are_lacking(self):
        for line, place in (("cell", 2), ("cell 3", 3), ("cell 3 0 0", 4), ("cell 3 0 x y", 4), ("sing", 1), ("sing 9 9 9", 1),
                            ("Cell 3 0", 1), ("cells", 1), ("cell 0 0", 2), ("cell 9 9", 2), ("cell x", 2), ("cell 3 1", 3),
                            ("cell 3 x", 3), ("cell -1 0", 2), ("cell 3 -1", 3), ("cell 3 -0", 3), ("cell 03 0", 2),
                            ("cell 3 00", 3), ("cell +3 0", 2), ("cell 3.0 0", 2), ("cell 3 0x0", 3), ("cell 3\t0", 2),
                            ("\tcell 3 0", 1), ("cell 3 0\r", 3), ("cell \u0663 0", 2), ("cell 3 \u00b2", 3), ("cell 1_0 0", 2),
                            ("cell " + "9" * 5000 + " 0", 2), ("cell 3 " + "0" * 5000, 3), ("cell None 0", 2)):
            self.cannot(1, place, read_machine, line)
            self.cannot(3, place, read_machine, "\n\n" + line)

    def test_rows_are_numbered_as_cells_name_them_first(self):
        self.assertEqual(read_machine("cell 1 0\ncell 1 1\ncell 1 0\ncell 1 2"), ((1, 1, 1, 1), (0, 1, 0, 2)))
        self.cannot(1, 3, read_machine, "cell 1 1\ncell 1 0")
        self.cannot(3, 3, read_machine, "cell 1 0\ncell 1 0\ncell 1 2")

    def test_wrong_values(self):
        junk.refuses_machines(self, write_machine)
        for value in NO_STRINGS:
            self.assertRaises(BadString, read_machine, value)


class Programs(Texts):
    def test_the_example(self):
        self.assertEqual(write_program(1, (("touch", 0), ("zero", 0))), "touch 0\nzero 0")

    def test_all_words(self):
        program = (("get", 1), ("plus", 0), ("minus", 1), ("set", 0), ("put", -1000000), ("put", 0), ("put", 1000000), ("say",),
                   ("ask",), ("zero", 12), ("go", 0), ("stop",))
        text = ("get 1\nplus 0\nminus 1\nset 0\nput -1000000\nput 0\nput 1000000\nsay\nask\nzero 12\ngo 0\nstop")
        self.assertEqual(write_program(2, program), text)
        self.assertEqual(read_program(2, text), program)
        self.assertEqual(read_program(4, plain_texts.spaced(plain.chance_of(1), text)), program)

    def test_programs_longer_than_twenty(self):
        for many in (20, 21, 4000):
            program = (("say",),) * (many - 1) + (("go", many),)
            self.assertEqual(read_program(1, write_program(1, program)), program)
        with self.assertRaises(BadProgram) as caught:
            write_program(1, (("say",),) * 4001)
        self.assertIsNone(caught.exception.index)

    def test_words_that_cannot_stand_and_those_that_are_lacking(self):
        for line, place in (("get", 2), ("get 2", 2), ("get -1", 2), ("get -0", 2), ("get 00", 2), ("get x", 2), ("get 0 0", 3),
                            ("get 2 0", 2), ("plus 2", 2), ("minus 2", 2), ("set 2", 2), ("touch 2", 2), ("touch", 2), ("say 0", 2),
                            ("say say", 2), ("ask 1", 2), ("stop 0 0", 2), ("put", 2), ("put x", 2), ("put 1000001", 2),
                            ("put -1000001", 2), ("put -0", 2), ("put -00", 2), ("put 00", 2), ("put 007", 2), ("put -07", 2),
                            ("put --7", 2), ("put -", 2), ("put +7", 2), ("put - 7", 2), ("put 7 7", 3), ("put -7 x", 3),
                            ("zero", 2), ("zero -1", 2), ("zero 4001", 2), ("go 4001", 2), ("go 01", 2), ("go", 2), ("go 0 x", 3),
                            ("sing", 1), ("Get 0", 1), ("0", 1), ("get0", 1), ("cell 1 0", 1), ("say\t", 1), ("say\r", 1),
                            ("get \u0660", 2), ("put " + "1" * 5000, 2), ("put -" + "1" * 5000, 2)):
            self.cannot(1, place, read_program, 2, line)
            self.cannot(4, place, read_program, 2, "say\n  \nput -5\n" + line + "\nsing")

    def test_without_an_instruction(self):
        for text, line in (("", 2), ("\n", 3), ("   ", 2), (" \n\n  ", 4)):
            self.cannot(line, 1, read_program, 2, text)

    def test_what_is_gone_to(self):
        for word in ("go", "zero"):
            self.assertEqual(read_program(1, f"say\n\n{word} 2"), (("say",), (word, 2)))
            # Lines are counted that have words, but told by their numbers among all.
            self.cannot(3, 2, read_program, 1, f"say\n\n{word} 3\n \n")
            self.cannot(1, 2, read_program, 1, f"{word} 4000\n{word} 3\nsay")
            self.cannot(2, 2, read_program, 1, f"{word} 3\n{word} 4\nsay\n")
            # What can be told at once comes ahead of it, even further down.
            self.cannot(3, 1, read_program, 1, f"{word} 4000\nsay\nsing")
            self.cannot(2, 2, read_program, 1, f"{word} 4000\n{word} 4001")

    def test_4000_lines_and_one_more(self):
        self.assertEqual(len(read_program(1, "say\n" * 3999 + "go 4000")), 4000)
        self.assertEqual(len(read_program(1, "say\n\n" * 4000)), 4000)
        for last in ("say", "sing", "get", "go 4001"):
            self.cannot(4001, 1, read_program, 1, "say\n" * 4000 + last)
            self.cannot(8001, 1, read_program, 1, "say\n\n" * 4000 + last + "\nsing")
        self.cannot(4001, 1, read_program, 1, "go 4000\n" * 4001)
        self.cannot(7, 1, read_program, 1, "say\n" * 6 + "sing\n" + "say\n" * 4000)

    def test_wrong_values(self):
        for value in (0, 5, -1, True, False, None, "1", (1,), [], {}, 10 ** 20):
            self.assertRaises(BadNumber, write_program, value, None)
            self.assertRaises(BadNumber, read_program, value, None)
            self.assertRaises(BadNumber, read_program, value, "sing")
        for value in NO_STRINGS:
            self.assertRaises(BadString, read_program, 1, value)
        junk.refuses_programs(self, lambda program: write_program(2, program))
        with self.assertRaises(BadProgram) as caught:
            write_program(1, (("touch", 0), ("get", 1)))
        self.assertEqual(caught.exception.index, 1)


class AgainstTheWords(Texts):
    def same(self, call, told, *arguments):
        """That a call answers what is told, or raises the error with a line and place told."""
        if isinstance(told[0], int):
            self.cannot(*told, call, *arguments)
            return True
        self.assertEqual(call(*arguments), told, arguments)
        return False

    def test_what_is_written_is_read_again(self):
        chance = plain.chance_of(130)
        for _ in range(300):
            machine = plain.some_machine(chance, 4, 8)
            cells = len(machine[0])
            self.assertEqual(read_machine(write_machine(machine)), machine)
            self.assertEqual(read_machine(plain_texts.spaced(chance, write_machine(machine))), machine)
            program = plain.with_touches(chance, cells, plain.some_program(chance, cells, 20))
            text = write_program(cells, program)
            self.assertEqual(len(text.split("\n")), len(program))
            self.assertEqual(read_program(cells, text), program)
            self.assertEqual(read_program(cells, plain_texts.spaced(chance, text)), program)

    def test_kept_programs_are_read_again(self):
        machine, program = ((3, 4), (0, 1)), (("get", 0), ("zero", 3), ("get", 1), ("go", 0))
        written = kept(machine, program)
        self.assertIn("touch 0", write_program(2, written).split("\n"))
        self.assertEqual(read_program(2, write_program(2, written)), written)

    def test_bent_texts(self):
        chance = plain.chance_of(131)
        counts = {True: 0, False: 0}
        for _ in range(3000):
            machine = plain.some_machine(chance, 4, 8)
            cells = len(machine[0])
            text = write_machine(machine)
            other = write_program(cells, plain.some_program(chance, cells, 6))
            for _ in range(chance.randint(1, 2)):
                text, other = plain_texts.bent(chance, text), plain_texts.bent(chance, other)
            for call, told, arguments in ((read_machine, plain_texts.read_machine(text), (text,)),
                                          (read_program, plain_texts.read_program(cells, other), (cells, other))):
                counts[self.same(call, told, *arguments)] += 1
        self.assertGreater(min(counts.values()), 500)

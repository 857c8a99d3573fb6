import unittest

from fademill.errors import BadNumber, BadProgram
from fademill.needs import needed
from tests import junk, plain


class Needed(unittest.TestCase):
    def test_the_example(self):
        program = (("get", 0), ("set", 1), ("plus", 1), ("zero", 0), ("minus", 2))
        self.assertEqual(needed(3, program, 1), (0, 2))
        self.assertEqual(needed(3, program, 2), (0, 1, 2))
        self.assertEqual(needed(3, program, 4), (2,))
        self.assertEqual(needed(3, program, 5), ())

    def test_from_a_go_a_stop_and_a_circle(self):
        program = (("go", 3), ("stop",), ("get", 1), ("get", 0), ("go", 4))
        self.assertEqual([needed(2, program, index) for index in range(6)], [(0,), (), (0, 1), (0,), (), ()])

    def test_from_where_the_program_never_comes(self):
        self.assertEqual(needed(4, (("stop",), ("get", 3)), 1), (3,))

    def test_one_way_of_a_zero_is_enough(self):
        self.assertEqual(needed(1, (("zero", 2), ("set", 0), ("get", 0)), 0), (0,))
        self.assertEqual(needed(1, (("zero", 1), ("set", 0), ("get", 0)), 0), ())

    def test_against_the_words(self):
        chance = plain.chance_of(3)
        for _ in range(600):
            cells = chance.randint(1, 4)
            program = plain.some_program(chance, cells, chance.choice((4, 9, 20)))
            for index in range(len(program) + 1):
                self.assertEqual(needed(cells, program, index), plain.needed(cells, program, index), program)

    def test_wrong_values(self):
        for value in junk.VALUES + (0, 5):
            self.assertRaises(BadNumber, needed, value, None, None)
        for value in junk.VALUES + ((("say",),) * 21, (("touch", 0),)):
            self.assertRaises(BadProgram, needed, 2, value, None)
        for value in junk.VALUES + (3, (1,), "1"):
            self.assertRaises(BadNumber, needed, 2, junk.PROGRAM, value)
        for line in junk.BAD_LINES:
            with self.assertRaises(BadProgram) as caught:
                needed(2, (("say",), ("ask",), line), 0)
            self.assertEqual(caught.exception.index, 2)

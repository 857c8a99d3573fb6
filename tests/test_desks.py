import unittest

from fademill.benches import Mill
from fademill.books import can_be_kept, rank
from fademill.desks import Desk
from fademill.errors import BadLine, BadProgram, BadString, NoWay, TooMany
from fademill.milltexts import read_program, write_machine, write_program
from fademill.needs import needed
from fademill.rounds import endless
from fademill.shares import share
from fademill.walks import carries
from fademill.writing import kept
from tests import junk, plain

# Each kind of line, with numbers as they may be for two cells, and a program of three instructions.
OF_MACHINE = ("read 0", "write 1 5", "touch 1", "wait", "tick", "lives", "held", "spare")
OF_PROGRAM = ("keep", "rank", "needed 3", "share", "kept")
OTHERS = ("", " ", "sing", "Read 0", "read", "read 0 0", "read0", "write", "write 0", "write 0 1 2", "touch", "touch 0 0", "wait 1",
          "tick 0", "lives 0", "held x", "spare of", "keep 0", "rank 0", "needed", "needed 0 1", "share x", "kept 0", "program say",
          "program", "none", "0", "wait\n", "\nwait", "wait\ntick", "wait\t", "tick\r", "read\t0", "lives\u00a0", "-", "|", "text")
TEXT = "cell 2 0\ncell 3 1"
PROGRAM = "say\nget 1\nzero 0"


def desk_with(machine, program=None):
    desk = Desk()
    desk.take_machine(write_machine(machine))
    if program is not None:
        assert desk.take_program(write_program(len(machine[0]), program)) == "taken"
    return desk


class Takings(unittest.TestCase):
    def test_the_example(self):
        desk = Desk()
        desk.take_machine("cell 3 0")
        desk.take_program("say\nzero 0\nget 0\ngo 0")
        self.assertEqual([desk.say(line) for line in ["keep", "share", "rank", "spare", "lives", "sing"]],
                         ["yes", "2 of 3", "-", "2 of 3", "3", "what"])

    def test_before_a_machine_is_taken(self):
        desk = Desk()
        for line in OF_MACHINE + OF_PROGRAM + ("read 9", "read x", "write x y", "needed 99"):
            self.assertEqual(desk.say(line), "no machine", line)
        for line in OTHERS:
            self.assertEqual(desk.say(line), "what", line)
        for text in (PROGRAM, "", "sing", "say\n" * 21, "touch 9"):
            self.assertEqual(desk.take_program(text), "no machine")
        self.assertRaises(BadString, desk.take_program, None)
        self.assertEqual(desk.say("keep"), "no machine")

    def test_before_a_program_is_taken(self):
        desk = Desk()
        desk.take_machine(TEXT)
        for line in OF_PROGRAM + ("needed 99", "needed x"):
            self.assertEqual(desk.say(line), "no program", line)
        self.assertEqual([desk.say(line) for line in OF_MACHINE],
                         ["0", "done", "done", "done", "4", "0 2", "- 5", "0 of 1"])
        self.assertEqual(desk.take_program(PROGRAM), "taken")
        self.assertEqual([desk.say(line) for line in OF_PROGRAM[:-1]], ["yes", "-", "-", "1 of 1"])
        self.assertEqual(desk.take_program("say\nget 1\nsay"), "taken")
        self.assertEqual(desk.say("kept"), "say; get 1; say; stop")

    def test_another_machine_begins_anew_and_without_a_program(self):
        desk = Desk()
        desk.take_machine(TEXT)
        desk.take_program(PROGRAM)
        desk.say("write 0 8")
        self.assertEqual([desk.say(line) for line in ("tick", "held", "keep")], ["1", "8 0", "yes"])
        desk.take_machine(TEXT)
        self.assertEqual([desk.say(line) for line in ("tick", "held", "lives", "keep")], ["0", "0 0", "2 3", "no program"])
        desk.take_machine("cell 8 0")
        self.assertEqual([desk.say(line) for line in ("lives", "read 1", "rank")], ["8", "no such number", "no program"])

    def test_another_program_leaves_the_machine_at_work(self):
        desk = Desk()
        desk.take_machine(TEXT)
        desk.say("write 1 3")
        desk.take_program("say\nsay\nget 0")
        self.assertEqual([desk.say(line) for line in ("tick", "held", "needed 0")], ["1", "0 3", "0"])
        desk.take_program("stop")
        self.assertEqual([desk.say(line) for line in ("tick", "held", "needed 0", "share", "kept", "rank", "keep")],
                         ["1", "0 3", "-", "-", "stop", "-", "yes"])

    def test_twenty_instructions_and_one_more(self):
        desk = Desk()
        desk.take_machine(TEXT)
        self.assertEqual(desk.take_program("say\n" * 20), "taken")
        self.assertEqual(desk.say("needed 20"), "-")
        for text in ("say\n" * 21, "touch 0\n" * 21):
            with self.assertRaises(BadProgram) as caught:
                desk.take_program(text)
            self.assertIsNone(caught.exception.index)

    def test_touches_cannot_be_taken(self):
        desk = Desk()
        desk.take_machine(TEXT)
        with self.assertRaises(BadProgram) as caught:
            desk.take_program("say\n\nget 0\ntouch 1\ntouch 0")
        self.assertEqual(caught.exception.index, 2)

    def test_what_is_refused_changes_nothing(self):
        desk = Desk()
        desk.take_machine(TEXT)
        desk.take_program(PROGRAM)
        desk.say("write 1 5")
        for value in junk.VALUES + (TEXT + "\ncell 9 0",):
            wanted = BadLine if isinstance(value, str) else BadString
            self.assertRaises(wanted, desk.take_machine, value)
            self.assertRaises(wanted, desk.take_program, value)
        for text in ("say\n" * 21, "touch 0"):
            self.assertRaises(BadProgram, desk.take_program, text)
        self.assertEqual([desk.say(line) for line in ("tick", "held", "needed 1", "keep")], ["1", "0 5", "1", "yes"])

    def test_lines_that_cannot_stand(self):
        desk = Desk()
        for text, line, place in (("", 2, 1), ("cell 9 0", 1, 2), ("\ncell 3 0 0", 2, 4), ("cell 3", 1, 3)):
            with self.assertRaises(BadLine) as caught:
                desk.take_machine(text)
            self.assertEqual((caught.exception.line, caught.exception.place), (line, place))
        self.assertEqual(desk.say("tick"), "no machine")
        desk.take_machine(TEXT)
        for text, line, place in (("", 2, 1), ("say\nget 2", 2, 2), ("say\nzero 3", 2, 2), ("sing", 1, 1)):
            with self.assertRaises(BadLine) as caught:
                desk.take_program(text)
            self.assertEqual((caught.exception.line, caught.exception.place), (line, place))
        self.assertEqual(desk.say("keep"), "no program")


class Answers(unittest.TestCase):
    def test_spaces(self):
        desk = desk_with(((2, 3), (0, 1)))
        self.assertEqual([desk.say(line) for line in ("  wait", "wait  ", " write   1  -7 ", "held", "   ")],
                         ["done", "done", "done", "- -7", "what"])

    def test_other_values(self):
        desk = desk_with(((2, 3), (0, 1)), (("say",),))
        for line in OTHERS + tuple(value for value in junk.VALUES if not isinstance(value, str)) + (["wait"], ("wait",)):
            self.assertEqual(desk.say(line), "what", line)
        self.assertEqual(desk.say("tick"), "0")

    def test_no_such_number(self):
        desk = desk_with(((2, 3), (0, 1)), (("say",), ("get", 0), ("say",)))
        odd = ("2", "-1", "-0", "00", "01", "+1", "1.0", "x", "read", "--1", "-", "1_0", "\u0661", "\u00b2", "1\n", "\t1", "9" * 5000,
               "0" * 5000, "None", "True", "()", "0x1")
        for word in odd:
            for line in (f"read {word}", f"touch {word}", f"write {word} 5", f"write {word} x"):
                self.assertEqual(desk.say(line), "no such number", line)
        for word in tuple(set(odd) - {"2", "-1"}) + ("1000001", "-1000001", "-05", "05", "-00"):
            self.assertEqual(desk.say(f"write 0 {word}"), "no such number", word)
        for word in tuple(set(odd) - {"2"}) + ("4", "20", "-2"):
            self.assertEqual(desk.say(f"needed {word}"), "no such number", word)
        self.assertEqual([desk.say(line) for line in ("tick", "lives", "held")], ["0", "2 3", "0 0"])

    def test_what_can_be_written(self):
        desk = desk_with(((2, 3), (0, 1)))
        for value in ("-1000000", "1000000", "0", "-1", "999999"):
            self.assertEqual([desk.say("write 1 " + value), desk.say("read 1")], ["done", value])

    def test_indexes(self):
        desk = desk_with(((8, 8, 8), (0, 1, 2)), (("get", 0), ("set", 1), ("plus", 1), ("zero", 0), ("minus", 2)))
        self.assertEqual([desk.say(f"needed {index}") for index in range(7)],
                         ["0 2", "0 2", "0 1 2", "0 2", "2", "-", "no such number"])

    def test_a_machine_at_work(self):
        desk = desk_with(((2, 8), (0, 0)))
        lines = ("write 0 7", "wait", "held", "lives", "wait", "held", "lives", "read 0", "lives", "touch 0", "write 0 -4", "read 0",
                 "tick")
        self.assertEqual([desk.say(line) for line in lines],
                         ["done", "done", "7 0", "1 7", "done", "- 0", "0 6", "-", "0 8", "done", "done", "-4", "7"])

    def test_spare(self):
        for machine, told in ((((2, 4), (0, 1)), "1 of 4"), (((1,), (0,)), "0 of 1"), (((2, 2), (0, 1)), "0 of 1"),
                              (((1, 8), (0, 1)), "no way"), (((8,), (0,)), "7 of 8")):
            self.assertEqual(desk_with(machine).say("spare"), told)

    def test_what_cannot_be_kept(self):
        desk = desk_with(((1, 2), (0, 1)), (("get", 0), ("get", 1), ("go", 0)))
        self.assertEqual([desk.say(line) for line in OF_PROGRAM], ["no", "2", "-", "no way", "no way"])

    def test_too_many_goes_through(self):
        desk = desk_with(*junk.TOO_WIDE)
        for line in ("keep", "rank", "share", "kept"):
            with self.assertRaises(TooMany) as caught:
                desk.say(line)
            self.assertEqual(caught.exception.most, 20000)
        self.assertEqual(desk.say("needed 0"), "0 1 2 3")
        machine, program = junk.FULL_ENDLESS
        desk = desk_with(machine, program + junk.ONE_MORE)
        with self.assertRaises(TooMany) as caught:
            desk.say("share")
        self.assertEqual(caught.exception.most, 1000)
        self.assertEqual(desk.say("keep"), "yes")


class AgainstTheFunctions(unittest.TestCase):
    def asked(self, machine, program):
        """What each question should be answered."""
        found = endless(machine, tuple(range(len(machine[0]))))
        told = {"spare": "no way" if found is None else f"{found[2][0]} of {found[2][1]}",
                "keep": "yes" if can_be_kept(machine, program) else "no",
                "rank": "-" if rank(machine, program) is None else str(rank(machine, program))}
        for index in range(len(program) + 1):
            told[f"needed {index}"] = " ".join(map(str, needed(len(machine[0]), program, index))) or "-"
        try:
            ratio = share(machine, program)
            told["share"] = "-" if ratio is None else f"{ratio[0]} of {ratio[1]}"
            told["kept"] = write_program(len(machine[0]), kept(machine, program)).replace("\n", "; ")
        except NoWay:
            told["share"] = told["kept"] = "no way"
        return told

    def test_questions(self):
        chance = plain.chance_of(150)
        seen = {}
        for _ in range(250):
            machine = plain.some_machine(chance, 3, 4)
            program = plain.some_program(chance, len(machine[0]), 8) + (("go", 0),)
            desk = desk_with(machine, program)
            for line, told in self.asked(machine, program).items():
                self.assertEqual(desk.say(line), told, (machine, program, line))
                seen[line, told] = True
            written = desk.say("kept")
            if written != "no way":
                again = read_program(len(machine[0]), written.replace(";", "\n"))
                self.assertTrue(carries(machine, program, again))
        for line in (("share", "-"), ("share", "no way"), ("spare", "no way"), ("keep", "no"), ("rank", "1")):
            self.assertIn(line, seen)

    def test_a_mill_beside_it(self):
        chance = plain.chance_of(151)
        for _ in range(100):
            machine = plain.some_machine(chance, 4, 5)
            desk, mill = desk_with(machine), Mill(machine)
            for _ in range(30):
                cell, value = chance.randrange(len(machine[0])), chance.choice((-10 ** 6, -1, 0, 5, 10 ** 6))
                word = chance.choice(("read", "write", "touch", "wait"))
                if word == "read":
                    held = mill.read(cell)
                    self.assertEqual(desk.say(f"read {cell}"), "-" if held is None else str(held))
                elif word == "write":
                    mill.write(cell, value)
                    self.assertEqual(desk.say(f"write {cell} {value}"), "done")
                elif word == "touch":
                    mill.touch(cell)
                    self.assertEqual(desk.say(f"touch {cell}"), "done")
                else:
                    mill.wait()
                    self.assertEqual(desk.say("wait"), "done")
                held = " ".join("-" if held is None else str(held) for held in mill.held)
                self.assertEqual([desk.say("tick"), desk.say("lives"), desk.say("held")],
                                 [str(mill.tick), " ".join(map(str, mill.fresh)), held])

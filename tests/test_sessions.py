import unittest

from fademill.desks import Desk
from fademill.errors import BadLine, BadProgram, BadString, MillError, TooMany
from fademill.milltexts import write_machine, write_program
from fademill.sessions import Session, first_unlike, read_session
from tests import junk, plain, plain_texts

TEXT = "cell 2 0\ncell 3 1"
NO_STRINGS = tuple(value for value in junk.VALUES if not isinstance(value, str))
LINES = ("read 0", "read 1", "write 0 4", "write 1 -4", "touch 0", "touch 1", "wait", "tick", "lives", "held", "spare", "keep",
         "rank", "needed 0", "share", "kept", "", " ", "sing", "> wait", "< done", "| cell 3 0", "read 9", "program", "programs say",
         " program say", "wait\r", "a:b")


class Sessions(unittest.TestCase):
    def test_the_example(self):
        session = Session("cell 3 0")
        answers = [session.say("program say:zero 0:get 0"), session.say("keep")]
        self.assertEqual([answers, session.text(), first_unlike("| cell 3 0\n> tick\n< 5")],
                         [["taken", "yes"], "| cell 3 0\n> program say:zero 0:get 0\n< taken\n> keep\n< yes", 0])

    def test_without_a_program(self):
        session = Session(TEXT)
        self.assertEqual((session.log, session.text()), ((), "| cell 2 0\n| cell 3 1"))
        self.assertEqual([session.say(line) for line in ("wait", "keep", "lives", "")], ["done", "no program", "1 2", "what"])
        self.assertEqual(session.log, (("wait", "done"), ("keep", "no program"), ("lives", "1 2"), ("", "what")))
        self.assertEqual(session.text(), "| cell 2 0\n| cell 3 1\n> wait\n< done\n> keep\n< no program\n> lives\n< 1 2\n> \n< what")

    def test_the_machine_is_written_plainly(self):
        self.assertEqual(Session("\n  cell   2 0 \n\ncell 3  1\n").text(), "| cell 2 0\n| cell 3 1")

    def test_programs_with_colons(self):
        session = Session(TEXT)
        self.assertEqual(session.say("program say"), "taken")
        self.assertEqual(session.say("program  get 1 : :  put -5 :"), "taken")
        self.assertEqual([session.say("kept"), session.say("needed 0")], ["get 1; put -5; stop", "1"])
        # Not the words that program begins with a space behind.
        self.assertEqual([session.say(line) for line in ("program", "programs", " program say", "Program say", "program\tsay")],
                         ["what"] * 5)
        self.assertEqual(session.log[1], ("program  get 1 : :  put -5 :", "taken"))
        self.assertEqual(len(session.log), 9)

    def test_programs_that_are_refused_are_not_kept(self):
        session = Session(TEXT)
        session.say("program say:get 0")
        session.say("wait")
        for line, told in (("program ", (2, 1)), ("program :", (3, 1)), ("program sing", (1, 1)), ("program say::get 2", (3, 2)),
                           ("program say:zero 3", (2, 2)), ("program say:zero", (2, 2)), ("program get 0 1:sing", (1, 3))):
            with self.assertRaises(BadLine, msg=line) as caught:
                session.say(line)
            self.assertEqual((caught.exception.line, caught.exception.place), told, line)
        for line, told in (("program " + "say:" * 21, None), ("program say:touch 0:touch 1", 1)):
            with self.assertRaises(BadProgram) as caught:
                session.say(line)
            self.assertEqual(caught.exception.index, told)
        self.assertEqual([session.say("needed 0"), session.say("tick")], ["0", "1"])
        self.assertEqual([line for line, _ in session.log], ["program say:get 0", "wait", "needed 0", "tick"])

    def test_lines_that_are_none(self):
        session = Session(TEXT)
        for value in NO_STRINGS + ("wait\n", "\n", "wait\ntick", "program say\nsay", "\nprogram say", "program say:\n"):
            self.assertRaises(BadString, session.say, value)
        self.assertEqual((session.log, session.say("tick")), ((), "0"))

    def test_too_many_goes_through_and_is_not_kept(self):
        session = Session(write_machine(junk.TOO_WIDE[0]))
        program = "program " + write_program(4, junk.TOO_WIDE[1]).replace("\n", ":")
        self.assertEqual(session.say(program), "taken")
        self.assertRaises(TooMany, session.say, "keep")
        self.assertEqual(session.log, ((program, "taken"),))
        self.assertRaises(TooMany, first_unlike, session.text() + "\n> keep\n< yes")

    def test_a_log_that_was_told_does_not_change(self):
        session = Session(TEXT)
        before = session.log
        session.say("wait")
        self.assertEqual((before, session.log), ((), (("wait", "done"),)))
        other = Session(TEXT)
        self.assertEqual((other.log, other.say("tick")), ((), "0"))

    def test_wrong_machines(self):
        for value in NO_STRINGS:
            self.assertRaises(BadString, Session, value)
        for text, told in (("", (2, 1)), ("cell 9 0", (1, 2)), ("cell 3 0\n\ncell 3 2", (3, 3)), ("| cell 3 0", (1, 1)),
                           ("cell 3 0\n" * 5, (5, 1))):
            with self.assertRaises(BadLine) as caught:
                Session(text)
            self.assertEqual((caught.exception.line, caught.exception.place), told)


class Reading(unittest.TestCase):
    def cannot(self, line, place, text):
        for call in (read_session, first_unlike):
            with self.assertRaises(BadLine, msg=text) as caught:
                call(text)
            self.assertEqual((caught.exception.line, caught.exception.place), (line, place), text)

    def test_what_is_read(self):
        self.assertEqual(read_session("| cell 3 0"), (((3,), (0,)), ()))
        self.assertEqual(read_session("| \n|  cell 3   0\n|   \n> tick\n< 5\n> \n< "),
                         (((3,), (0,)), (("tick", "5"), ("", ""))))
        self.assertEqual(read_session("| cell 3 0\n> > a\n< | b"), (((3,), (0,)), (("> a", "| b"),)))
        # What is said is not looked at.
        self.assertEqual(read_session("| cell 3 0\n> program sing\n< x")[1], (("program sing", "x"),))

    def test_lines_that_begin_otherwise(self):
        head = "| cell 3 0\n| cell 3 1\n"
        for text, line in ((head, 3), (head + "tick", 3), (head + "< 0", 3), (head + ">tick\n< 0", 3), (head + " > tick\n< 0", 3),
                           (head + ">\n< what", 3), (head + "|cell 3 0", 3), (head + "> tick\n> tick\n< 0", 4),
                           (head + "> tick\n<0", 4), (head + "> tick\n\n< 0", 4), (head + "> tick\n| cell 3 0", 4),
                           (head + "> tick\n< 0\n", 5), (head + "> tick\n< 0\n| cell 3 0", 5), (head + "> tick\n< 0\n< 0", 5),
                           ("", 1), ("tick", 1), ("cell 3 0", 1), ("< 0", 1), ("|", 1), ("|cell 3 0\n> tick\n< 0", 1)):
            self.cannot(line, 1, text)

    def test_lines_that_are_lacking(self):
        self.cannot(3, 1, "| cell 3 0\n> tick")
        self.cannot(5, 1, "| cell 3 0\n> tick\n< 0\n> tick")
        self.cannot(2, 1, "> tick")

    def test_machines_that_cannot_stand(self):
        for text, told in (("| cell 9 0", (1, 2)), ("| cell 3 0\n| cell 3", (2, 3)), ("| sing", (1, 1)), ("| ", (2, 1)),
                           ("| \n|  \n> tick\n< 0", (3, 1)), ("| cell 3 0\n" * 4 + "| cell 3 0", (5, 1)),
                           ("| cell 3 0 0\n> tick\n< 0", (1, 4)), ("> tick\n< 0", (2, 1)), ("| | cell 3 0", (1, 1))):
            self.cannot(*told, text)

    def test_the_lines_behind_come_ahead_of_the_machine(self):
        self.cannot(2, 1, "| cell 9 0\ntick")
        self.cannot(3, 1, "| cell 9 0\n> tick")
        self.cannot(1, 1, "tick\n| cell 9 0")

    def test_wrong_values(self):
        for value in NO_STRINGS:
            self.assertRaises(BadString, read_session, value)
            self.assertRaises(BadString, first_unlike, value)


class Unlike(unittest.TestCase):
    def test_all_alike(self):
        for text in ("| cell 3 0", "| cell 3 0\n> tick\n< 0", "|  cell  3 0\n> wait\n< done\n> tick\n< 1\n> \n< what"):
            self.assertIsNone(first_unlike(text))

    def test_the_first_one(self):
        head = "| cell 3 0\n> wait\n< done\n> tick\n< "
        self.assertEqual(first_unlike(head + "2\n> lives\n< 2"), 1)
        self.assertEqual(first_unlike(head + "2\n> lives\n< 3"), 1)
        self.assertEqual(first_unlike(head + "1\n> lives\n< 3"), 2)
        self.assertEqual(first_unlike(head + "1 \n> lives\n< 2"), 1)
        self.assertIsNone(first_unlike(head + "1\n> lives\n< 2"))

    def test_programs_that_are_refused_go_through(self):
        for line, error in (("program sing", BadLine), ("program touch 0", BadProgram), ("program ", BadLine)):
            self.assertRaises(error, first_unlike, f"| cell 3 0\n> {line}\n< taken")
            # All lines are said again, whatever was unlike before.
            self.assertRaises(error, first_unlike, f"| cell 3 0\n> tick\n< 5\n> {line}\n< taken")
        self.assertEqual(first_unlike("| cell 3 0\n> program say\n< done"), 0)
        self.assertIsNone(first_unlike("| cell 3 0\n> program say\n< taken"))


class AgainstADesk(unittest.TestCase):
    def some(self, chance):
        """A machine, and lines with programs among them, some of which are refused."""
        machine = plain.some_machine(chance, 3, 4)
        lines = []
        for _ in range(chance.randint(0, 14)):
            if chance.random() < 0.2:
                program = plain.some_program(chance, len(machine[0]), 8)
                text = plain_texts.spaced(chance, write_program(len(machine[0]), program))
                if chance.random() < 0.3:
                    text = plain_texts.bent(chance, text)
                lines.append("program " + text.replace("\n", ":"))
            else:
                lines.append(chance.choice(LINES))
        return machine, lines

    def said(self, session, desk, line):
        """The answer of a session, which is that of a desk beside it; None if it is refused by both."""
        if not line.startswith("program "):
            answer = desk.say(line)
            self.assertEqual(session.say(line), answer)
            return answer
        text = line[8:].replace(":", "\n")
        try:
            answer = desk.take_program(text)
        except MillError as error:
            with self.assertRaises(error.__class__) as caught:
                session.say(line)
            self.assertEqual(vars(caught.exception), vars(error))
            return None
        self.assertEqual(session.say(line), answer)
        return answer

    def test_sessions_are_read_again_and_what_was_bent_is_found(self):
        chance = plain.chance_of(160)
        refused = unlike = 0
        for _ in range(300):
            machine, lines = self.some(chance)
            text = plain_texts.spaced(chance, write_machine(machine))
            session, desk = Session(text), Desk()
            desk.take_machine(text)
            answers = [(line, self.said(session, desk, line)) for line in lines]
            log = tuple(pair for pair in answers if pair[1] is not None)
            refused += len(answers) - len(log)
            self.assertEqual(session.log, log)
            self.assertEqual(read_session(session.text()), (machine, log))
            self.assertIsNone(first_unlike(session.text()))
            if log:
                at = chance.randrange(len(log))
                parts = session.text().split("\n")
                for place in range(at, len(log)):
                    if place == at or chance.random() < 0.3:
                        parts[len(machine[0]) + 2 * place + 1] += chance.choice((" ", "x", " 0"))
                self.assertEqual(first_unlike("\n".join(parts)), at)
                unlike += 1
        self.assertGreater(refused, 20)
        self.assertGreater(unlike, 100)

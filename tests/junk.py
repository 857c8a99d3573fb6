"""Values that are not as they must be, of every kind that may be passed, and checks that they are refused."""

from fademill.errors import BadMachine, BadProgram

VALUES = (None, True, False, -1, 10 ** 30, -10 ** 30, "", "a", "get", "10", (), [], {}, (None,), [0], ((),), ([],), ({},),
          {0: 1}, {"fades": (2,)}, {(): []}, (True,), ("say",), (("say",), 5), [("say",)], (["say"],), ((2,), [0]),
          [(2,), (0,)], ((((((),),),),),), "ab", ("ab", "cd"), (1, 2, 3), ((), ()), ((0,), (0,)),
          {"a": {"b": [None, (True,)]}})

BAD_MACHINES = (
    ("machine", VALUES[:23]),
    ("machine", ([(2,), (0,)], ((2,),), ((2,), (0,), (0,)), {0: (2,), 1: (0,)}, "23", 7, ((2, 2), (0, 1), None))),
    ("fades", (((), ()), ((0,), (0,)), ((9,), (0,)), ((-1,), (0,)), ((True,), (0,)), (("2",), (0,)), ((None,), (0,)),
               ([2], (0,)), (2, (0,)), ("2", (0,)), ((2, 2, 2, 2, 2), (0, 0, 0, 0, 0)), ((2, 0), (0, 0)), (None, None),
               ({0: 2}, (0,)), (((2,),), (0,)), ((2, 3, 10 ** 20), (0, 1, 2)), ((9,), (5,)))),
    ("rows", (((2,), ()), ((2,), (1,)), ((2,), (0, 0)), ((2, 2), (0,)), ((2, 2), (0, 2)), ((2, 2), (1, 0)),
              ((2, 2), (0, True)), ((2,), (False,)), ((2,), [0]), ((2,), None), ((2,), 0), ((2,), "0"),
              ((2, 2), (0, -1)), ((2, 2, 2), (0, 1, 3)), ((2,), (None,)), ((2,), ("0",)), ((2,), ((),)), ((2,), {0: 0}))),
)

MACHINE = ((2, 3), (0, 1))
PROGRAM = (("say",), ("get", 1))

# Of a machine of two cells.
BAD_LINES = ((), ("get",), ("get", 2), ("get", -1), ("get", True), ("get", False), ("get", "0"), ("get", None),
             ("get", 0, 0), ("plus", 2), ("minus", 2), ("set", 2), ("set", (0,)), ("put",), ("put", 1000001),
             ("put", -1000001), ("put", True), ("put", None), ("say", 0), ("ask", 0), ("stop", 0), ("stop", None),
             ("zero",), ("zero", 4), ("zero", -1), ("zero", True), ("go",), ("go", 4), ("go", -1), ("go", False),
             ("touch", 2), ("touch", -1), ("touch", True), ("touch",), ("touch", 0, 0), ("sing",), ("sing", 0), ("",),
             ("Get", 0), (0,), (None,), (True,), (("get",), 0), (["get"], 0), ({}, 0), (["say"],), ({},), ["say"],
             ["get", 0], "say", "get 0", None, 5, True, {}, {"say": None}, [], ((("say",),),), ("say", "say"))

# Just 1000 moments that aren't doomed, and a say more makes one more: all courses end, or some go on for ever.
FULL_ENDING = (((7, 8, 7, 7), (0, 1, 2, 3)),
               (("zero", 8), ("zero", 8), ("get", 0), ("plus", 3), ("plus", 1), ("plus", 3), ("zero", 8), ("set", 0))
               + (("say",),) * 3)
FULL_ENDLESS = (((4, 4, 8, 8), (0, 1, 2, 3)),
                (("get", 3), ("zero", 0), ("plus", 3), ("say",), ("plus", 2), ("zero", 0), ("get", 2), ("plus", 1))
                + (("say",),) * 2)
ONE_MORE = (("say",),)

# The beginning is doomed, for cell 0 is lost if the zero goes one way; on the other there are many moments.
DOOMED_AND_WIDE = (((1, 8, 8, 8), (0, 1, 2, 3)),
                   (("zero", 8), ("say",), ("say",), ("say",), ("get", 1), ("get", 2), ("get", 3), ("stop",), ("get", 0)))

# More than 20000 moments count.
TOO_WIDE = (((8, 8, 8, 8), (0, 1, 2, 3)), (("say",),) * 16 + tuple(("get", cell) for cell in range(4)))


def refuses_machines(test, call):
    """That what is no machine has its error, told with the first part that is wrong."""
    for part, values in BAD_MACHINES:
        for value in values:
            with test.assertRaises(BadMachine) as caught:
                call(value)
            test.assertEqual(caught.exception.part, part)


def refuses_programs(test, call, lines=BAD_LINES):
    """That what is no program of a machine of two cells has its error, told with the first line that is wrong."""
    for value in VALUES + ((("say",),) * 4001, ((("say",), ("get", 1)),)):
        with test.assertRaises(BadProgram) as caught:
            call(value)
        if not isinstance(value, tuple) or not 1 <= len(value) <= 20:
            test.assertIsNone(caught.exception.index)
    for line in lines:
        with test.assertRaises(BadProgram) as caught:
            call((("say",), ("get", 1), line))
        test.assertEqual(caught.exception.index, 2)

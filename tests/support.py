"""What several tests need."""

from fdwires.errors import WireError

FULL = list("abcdefghij")

# Values that are no integer from 0 to 9.
NO_DESCRIPTORS = (-1, 10, 10 ** 30, -(10 ** 30), True, False, 1.0, "1", "", None, (), (1,), [], [1], {}, b"1")

# Values that are no name of a file and no end of a table.
NO_NAMES = ("", "abcdefghi", "A", "aB", "a1", "1", "a b", " a", "a ", "a_", "a-b", "a\n", "`", "{", "\u00e4", b"a",
            1, 0, True, None, (), ("a",), ["a"], {"a": 1})

# Values that are no list at all.
NO_LISTS = (None, True, False, 0, 1, "", "wait", (), (("wait",),), {}, {0: ("wait",)}, b"", 1.5, set())


class ListKind(list):
    """A list that is not exactly a list."""


class TupleKind(tuple):
    """A tuple that is not exactly a tuple."""


class Unfriendly:
    """A value that can be neither compared, nor tested, nor looked up."""

    def __eq__(self, other):
        raise RuntimeError("compared")

    def __hash__(self):
        raise RuntimeError("looked up")

    def __bool__(self):
        raise RuntimeError("tested")


# Values that are no process of a program whose only child, if any, has no children.
NO_PROCESSES = (None, 0, True, "", "()", [], [0], {}, (3,), (-1,), (0, 0), (1,), (False,), (0.0,), ("0",), ((),), (None,),
                ([],), (10 ** 30,), TupleKind(), TupleKind((0,)), (Unfriendly(),), Unfriendly())

# Values that are no integer from 1 on.
NO_CAPACITIES = (0, -1, -(10 ** 30), True, False, None, 1.0, "1", (), (1,), [], [1], {}, Unfriendly())


def assert_error(case, kind, fields, function, *arguments, **named):
    """Fails unless the call raises an error of exactly this class with these fields."""
    with case.assertRaises(WireError) as caught:
        function(*arguments, **named)
    case.assertIs(kind, caught.exception.__class__, (function.__name__, arguments, named))
    for name, value in fields.items():
        found = getattr(caught.exception, name)
        case.assertEqual((value, value.__class__), (found, found.__class__), (function.__name__, arguments, named))


def full_without(*numbers):
    """A table with ten different ends, but for these numbers, which are free."""
    return [None if number in numbers else end for number, end in enumerate(FULL)]

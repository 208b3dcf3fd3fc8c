"""Values of many kinds that the tests pass where they must be refused."""

LONG = 10 ** 999


def nested(depth, wrap, value):
    """Return a value that is wrapped so many times."""
    for level in range(depth):
        value = wrap(value)
    return value


def plain_function():
    return 0


class Plain:
    """A class of which nothing is said."""


def other_kinds():
    """Return values that are no integers, no lists and no tuples."""
    return [
        None, True, False, "", "0", "1", "a", "behind", "beside", "0, 1", "\n",
        b"", b"0", b"\x00", b"behind", {}, {0: 1}, {"many": 1}, set(), {0, 1}, frozenset(), frozenset((0, 1)),
        range(0), range(2), object(), Plain(), Plain, int, tuple, plain_function, len, ValueError("0"),
        ..., NotImplemented, iter([]), iter((0, 1)), (item for item in ()), bytearray(b"0"), memoryview(b"0"),
    ]


def no_numbers(low, high):
    """Return values of many kinds that are no integers from low to high."""
    return [
        low - 1, high + 1, high + 2, low - 2, -12, 100, -100, 2 ** 64, -2 ** 64, LONG, -LONG, LONG + low,
        [], [low], (), (low,), [low, high], (low, high), [[]], nested(50, lambda x: (x,), low),
        nested(50, lambda x: [x], low),
    ] + other_kinds()

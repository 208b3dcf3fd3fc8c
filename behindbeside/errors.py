"""The errors of the package.

Messages do not show the refused values: a value of any kind may be too long or too deep to be written out.
"""


class TaskError(ValueError):
    """Any argument that is refused."""


class BadPairs(TaskError):
    """No pairs of an order; place is the number of the first wrong item, or None."""

    def __init__(self, place):
        TaskError.__init__(self, "these are no pairs of an order")
        self.place = place


class BadTerm(TaskError):
    """A value that is no term."""

    def __init__(self, value):
        TaskError.__init__(self, "this is no term")
        self.value = value


class BadNumber(TaskError):
    """A value that is no integer of those that may stand here."""

    def __init__(self, value):
        TaskError.__init__(self, "this is no integer that may stand here")
        self.value = value


class BadExchange(TaskError):
    """No exchange on an order; place is the number of the first wrong item, or None."""

    def __init__(self, place):
        TaskError.__init__(self, "this is no exchange on the order")
        self.place = place


class NoTerm(TaskError):
    """An order that is no term's; four are tasks of it that stand in an N."""

    def __init__(self, four):
        TaskError.__init__(self, "four tasks of the order stand in an N")
        self.four = four


class OtherTasks(TaskError):
    """Orders of unlike numbers of tasks."""


class Lacks(TaskError):
    """An order that lacks a pair of another one."""

    def __init__(self, pair):
        TaskError.__init__(self, "the second order lacks a pair of the first one")
        self.pair = pair


class BadRun(TaskError):
    """No run of an order; place is the number of the first wrong item, or None."""

    def __init__(self, place):
        TaskError.__init__(self, "this is no run of the order")
        self.place = place


class BadRuns(TaskError):
    """A value that is no told runs."""

    def __init__(self, value):
        TaskError.__init__(self, "these are no told runs")
        self.value = value


class BadText(TaskError):
    """No text of a term; place is the number of the first wrong character, or None."""

    def __init__(self, place):
        TaskError.__init__(self, "this is no text of a term")
        self.place = place


class NothingLeft(TaskError):
    """No exchange is left to take back, or to make again."""


class TooGreat(OverflowError):
    """More is wanted than most."""

    def __init__(self, most):
        OverflowError.__init__(self, "more is wanted than can be done")
        self.most = most

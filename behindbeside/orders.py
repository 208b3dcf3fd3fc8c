"""Orders of tasks."""

from behindbeside.checks import is_whole
from behindbeside.errors import BadNumber, BadPairs

MOST_TASKS = 12


class Order:
    """An order of tasks.

    many is the number of tasks, pairs an ascending tuple of all pairs. For each task, behind has an integer
    whose bits tell the tasks behind it.
    """

    def __init__(self, many, pairs):
        if not is_whole(many, 1, MOST_TASKS):
            raise BadNumber(many)
        if not isinstance(pairs, (list, tuple)):
            raise BadPairs(None)
        behind = bits_behind(many, pairs)
        self.many = many
        self.behind = tuple(behind)
        self.pairs = tuple(pairs_told(behind))

    def __len__(self):
        return len(self.behind)

    def __eq__(self, other):
        return isinstance(other, Order) and self.many == other.many and self.pairs == other.pairs

    def is_ahead(self, one, other):
        """Tell whether a task is ahead of another one."""
        for task in (one, other):
            if not is_whole(task, 0, self.many - 1):
                raise BadNumber(task)
        return has_task(self.behind[one], other)


def has_task(bits, task):
    """Tell whether a task is among those that bits tell."""
    return (bits >> task) & 1 == 1


def is_task_pair(many, value):
    """Tell whether any value is a pair of different tasks, of so many."""
    if not isinstance(value, tuple) or len(value) != 2:
        return False
    one, other = value
    return is_whole(one, 0, many - 1) and is_whole(other, 0, many - 1) and one != other


def bits_behind(many, pairs):
    """Return for each task the bits of the tasks behind it, with all that follows of the pairs."""
    behind = [0] * many
    for place, pair in enumerate(pairs):
        if not is_task_pair(many, pair):
            raise BadPairs(place)
        one, other = pair
        if has_task(behind[other], one):
            raise BadPairs(place)
        behind = put_ahead(behind, one, other)
    return behind


def put_ahead(behind, one, other):
    """Return the bits behind each task once a task is ahead of another one, too."""
    more = behind[other] | (1 << other)
    return [bits | more if task == one or has_task(bits, one) else bits for task, bits in enumerate(behind)]


def pairs_told(behind):
    """Return all pairs, ascending, that the bits behind each task tell."""
    tasks = list(range(len(behind)))
    return [(one, other) for one in tasks for other in tasks if has_task(behind[one], other)]

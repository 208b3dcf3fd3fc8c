"""Questions about values of any kind."""


def is_whole(value, low, high):
    """Tell whether any value is an integer from low to high."""
    # Python counts True and False among the integers; the document does not.
    if not isinstance(value, int) or isinstance(value, bool):
        return False
    return low <= value <= high

"""Whether anybody who waits comes back to himself."""


def comes_back(waits):
    """waits: of each one who waits, for whom."""
    for first in waits:
        at, many = waits[first], 0
        while at in waits and at != first and many <= len(waits):
            at, many = waits[at], many + 1
        if at == first:
            return True
    return False

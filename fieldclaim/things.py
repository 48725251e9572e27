"""Which things are fields, and which are games."""

MOST_POINTS = 9
MOST_LINES = 10
MOST_CLAIMED = 3


def is_field(thing):
    if not isinstance(thing, tuple) or len(thing) != 2:
        return False
    return is_number(thing[0], 1, MOST_POINTS) and are_lines(thing[1], thing[0])


def is_game(thing):
    if not isinstance(thing, tuple) or len(thing) != 4:
        return False
    return (
        is_field(thing[0])
        and is_number(thing[1], 0, 1)
        and is_number(thing[2], 1, MOST_CLAIMED)
        and is_number(thing[3], 1, MOST_CLAIMED)
    )


def is_number(thing, least, most):
    # Python counts a truth among the ints, the document doesn't.
    if not isinstance(thing, int) or isinstance(thing, bool):
        return False
    return least <= thing <= most


# In the two below the order is asked last: parts of unlike kinds can't be compared.
def are_lines(thing, many):
    if not isinstance(thing, tuple) or len(thing) > MOST_LINES:
        return False
    return all([is_line(part, many) for part in thing]) and is_rising(thing)


def is_line(thing, many):
    if not isinstance(thing, tuple) or len(thing) == 0:
        return False
    return all([is_number(part, 0, many - 1) for part in thing]) and is_rising(thing)


def is_rising(parts):
    return all([parts[k] < parts[k + 1] for k in range(len(parts) - 1)])

"""Pairs of points, of which the guard claims the one when the builder claims the other."""

from fieldclaim.claims import choices, free_points, has_all
from fieldclaim.things import is_line, is_rising
from fieldclaim.winning import open_lines


def pairing(field):
    pairs = pairs_for(open_lines(field[1], (), ()), {})
    if pairs is None:
        return None
    return needed_pairs(field[1], tuple(sorted(pairs)))


def is_pairing(field, thing):
    if not isinstance(thing, tuple):
        return False
    # The kinds are asked first: parts of unlike kinds can't be compared.
    if not all([is_pair(part, field[0]) for part in thing]):
        return False
    return is_rising(thing) and are_apart(thing) and have_pairs(field[1], thing)


def partner(pairs, point):
    for pair in pairs:
        if point in pair:
            return pair[1] if point == pair[0] else pair[0]
    return None


def reply(field, pairs, mine, yours, point):
    free = free_points(field, mine, yours)
    other = partner(pairs, point)
    if other in free:
        return other
    return min(free, default=None)


def is_pair(thing, many):
    return is_line(thing, many) and len(thing) == 2


def are_apart(pairs):
    points = [pair[0] for pair in pairs] + [pair[1] for pair in pairs]
    return len(set(points)) == len(points)


def have_pairs(lines, pairs):
    return all([has_pair(line, pairs) for line in lines])


def has_pair(line, pairs):
    return any([has_all(line, pair) for pair in pairs])


# Pairs for all the lines, or None. Of a line that has not both points of a chosen pair, the points
# of that pair are taken out. What is hopeless is kept, so that it is not gone through twice.
def pairs_for(lines, hopeless):
    if len(lines) == 0:
        return ()
    shortest = min(lines, key=len)
    if len(shortest) < 2 or lines in hopeless:
        return None
    for pair in choices(shortest, 2):
        left = [line for line in lines if not has_all(line, pair)]
        others = pairs_for(open_lines(left, pair, ()), hopeless)
        if others is not None:
            return (pair,) + others
    hopeless[lines] = True
    return None


def needed_pairs(lines, pairs):
    kept = pairs
    for pair in pairs:
        others = tuple([other for other in kept if other != pair])
        if have_pairs(lines, others):
            kept = others
    return kept

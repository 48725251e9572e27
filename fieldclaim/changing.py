"""Fields changed into others."""

from fieldclaim.winning import has_another


def with_line(field, line):
    return (field[0], tuple(sorted(set(field[1] + (line,)))))


def without_point(field, point):
    return (field[0], lines_without(field[1], point))


def beside(one, other):
    moved = [tuple([point + one[0] for point in line]) for line in other[1]]
    # One's points lie below all of other's, so that the lines rise as they stand.
    return (one[0] + other[0], one[1] + tuple(moved))


def renamed(field, numbers):
    lines = [tuple(sorted([numbers[point] for point in line])) for line in field[1]]
    return (field[0], tuple(sorted(lines)))


def essential(field):
    return (field[0], tuple([line for line in field[1] if not has_another(line, field[1])]))


def lines_without(lines, point):
    return tuple([line for line in lines if point not in line])

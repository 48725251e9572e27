"""Fields written as texts."""


def written(field):
    words = [str(field[0]), ":"]
    # A field without lines ends at its colon, with no blank behind it.
    if len(field[1]) > 0:
        words.append(" , ".join([line_written(line) for line in field[1]]))
    return " ".join(words)


def line_written(line):
    return " ".join([str(point) for point in line])

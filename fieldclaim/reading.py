"""Fields read from texts."""

from fieldclaim.errors import NoText
from fieldclaim.things import is_field

# A field's numbers go up to 9, so each is written with a single sign.
NUMBERS = ("0", "1", "2", "3", "4", "5", "6", "7", "8", "9")


def read(text):
    # A blank too many leaves an empty word behind, which is refused as no number.
    words = text.split(" ")
    if len(words) < 2 or words[1] != ":":
        raise NoText(f"no number and colon at the beginning: {text!r}")
    field = (number_read(words[0]), lines_read(words[2:]))
    if not is_field(field):
        raise NoText(f"no field's writing: {text!r}")
    return field


# None is no number of a field, so that the whole is no field then.
def number_read(word):
    if word not in NUMBERS:
        return None
    return NUMBERS.index(word)


def lines_read(words):
    if len(words) == 0:
        return ()
    lines = [()]
    for word in words:
        if word == ",":
            lines.append(())
        else:
            lines[-1] = lines[-1] + (number_read(word),)
    return tuple(lines)

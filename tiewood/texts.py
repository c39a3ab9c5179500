"""Numbers, words and answers as they are written."""

from tiewood.errors import NoRow

FIGURES = "0123456789"
MOST_FIGURES = 60


def is_unsigned(word):
    figures = [sign for sign in word if sign in FIGURES]
    return 1 <= len(word) <= MOST_FIGURES and len(figures) == len(word) and (word == "0" or word[0] != "0")


def is_number(word):
    return is_unsigned(word) or word[:1] == "-" and word != "-0" and is_unsigned(word[1:])


def unsigned_of(word):
    if not is_unsigned(word):
        raise NoRow("a number without a sign is needed")
    return int(word)


def number_of(word):
    if not is_number(word):
        raise NoRow("a written number is needed")
    return int(word)


def weighed_of(word):
    ends = word.partition("-")
    # Where one of the signs is not there, a part without signs is left, and that is no number.
    rest = ends[2].partition(":")
    return (unsigned_of(ends[0]), unsigned_of(rest[0]), number_of(rest[2]))


def listed(words):
    return " ".join(words) if words else "none"


def numbers_text(numbers):
    return listed([str(number) for number in numbers])


def way_text(way):
    return "none" if way is None else numbers_text(way)


def tie_text(a, b):
    return f"{a}-{b}"


def kept_text(a, b, level, in_wood):
    return tie_text(a, b) + ":" + str(level) + ("*" if in_wood else "")


def ties_text(ties):
    return listed([kept_text(a, b, level, in_wood) for a, b, level, in_wood in ties])


def round_text(level, side, risen, found):
    end = "" if found is None else ">" + tie_text(found[0], found[1])
    return str(level) + ":" + str(len(side)) + "/" + str(len(risen)) + end


def trail_text(trail):
    return listed([round_text(level, side, risen, found) for level, side, risen, found in trail])

"""Numbers, things and pieces as words; each reader tells None of what is not written so."""

from fallgain.sets import set_of, things_in

FIGURES = "0123456789"


def are_figures(text):
    """Whether the text has figures alone, one or more."""
    return len(text) > 0 and all([sign in FIGURES for sign in text])


def read_number(word, figures):
    """The number that this word is, of at most so many figures."""
    bare = word[1:] if word.startswith("-") else word
    # Python reads no text of many thousand figures, so that the length comes first.
    if len(bare) > figures or not are_figures(bare):
        return None
    if bare[0] == "0" and word != "0":
        return None
    return int(word)


def read_numbers(words, figures):
    """The numbers that these words are, one or more, a tuple."""
    numbers = tuple([read_number(word, figures) for word in words])
    return None if len(numbers) == 0 or None in numbers else numbers


def read_thing(word):
    """The thing that this word is."""
    return int(word) if len(word) == 1 and word in FIGURES else None


def read_things(words):
    """The things that these words are, one or more, a tuple."""
    things = tuple([read_thing(word) for word in words])
    return None if len(things) == 0 or None in things else things


def read_parts(words):
    """The set of the things that these words are, one or more, rising."""
    things = read_things(words)
    if things is None or not all([things[at - 1] < things[at] for at in range(1, len(things))]):
        return None
    return set_of(things)


def told_if_read(piece):
    """The piece, where each part of it was read."""
    return None if None in piece else piece


def read_sum(words, figures):
    """The piece, where its word is "sum"."""
    return told_if_read(("sum", read_numbers(words[1:], figures)))


def read_weighted_set(words, figures):
    """The piece, where its word is "meet" or "whole"."""
    if len(words) < 3:
        return None
    return told_if_read((words[0], read_number(words[1], figures), read_parts(words[2:])))


def read_cut(words, figures):
    """The piece, where its word is "cut"."""
    if len(words) != 4:
        return None
    return told_if_read(("cut", read_number(words[1], figures), read_thing(words[2]), read_thing(words[3])))


def read_bent(words, figures):
    """The piece, where its word is "bent"."""
    if "of" not in words:
        return None
    at = words.index("of")
    return told_if_read(("bent", read_parts(words[at + 1:]), read_numbers(words[1:at], figures)))


def read_rank(words, figures):
    """The piece, where its word is "rank"."""
    if len(words) < 3:
        return None
    return told_if_read(("rank", read_number(words[1], figures), read_numbers(words[2:], figures)))


READERS = {
    "sum": read_sum,
    "meet": read_weighted_set,
    "whole": read_weighted_set,
    "cut": read_cut,
    "bent": read_bent,
    "rank": read_rank,
}


def read_piece(words, figures):
    """The piece that these words are, numbers of at most so many figures, for however many things."""
    if len(words) == 0 or words[0] not in READERS:
        return None
    read = READERS[words[0]]
    return read(words, figures)


def spaced(numbers):
    """The numbers as words, a blank between."""
    return " ".join([str(number) for number in numbers])


def sum_text(piece):
    """The line of a piece, where its word is "sum"."""
    return f"sum {spaced(piece[1])}"


def weighted_set_text(piece):
    """The line of a piece, where its word is "meet" or "whole"."""
    return f"{piece[0]} {piece[1]} {spaced(things_in(piece[2]))}"


def cut_text(piece):
    """The line of a piece, where its word is "cut"."""
    return f"cut {spaced(piece[1:])}"


def bent_text(piece):
    """The line of a piece, where its word is "bent"."""
    return f"bent {spaced(piece[2])} of {spaced(things_in(piece[1]))}"


def rank_text(piece):
    """The line of a piece, where its word is "rank"."""
    return f"rank {piece[1]} {spaced(piece[2])}"


WRITERS = {
    "sum": sum_text,
    "meet": weighted_set_text,
    "whole": weighted_set_text,
    "cut": cut_text,
    "bent": bent_text,
    "rank": rank_text,
}


def piece_text(piece):
    """The line of a piece, without its line end."""
    write = WRITERS[piece[0]]
    return write(piece)

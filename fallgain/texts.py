"""Texts of houses, pieces and mixtures, and what is read of such texts."""

from fallgain.errors import NoText
from fallgain.houses import check_house
from fallgain.making import check_pieces
from fallgain.mixtures import is_mixture
from fallgain.words import piece_text, read_number, read_numbers, read_piece, read_things, spaced

MOST_FIGURES = 18
MOST_COUNT_FIGURES = 1000


def house_text(house):
    """The text of a house."""
    return f"house {house[0]}\n{spaced(house[1])}\n"


def pieces_text(pieces):
    """The text of pieces."""
    return "".join([f"{piece_text(piece)}\n" for piece in pieces])


def mixture_text(mixture):
    """The text of a mixture."""
    return "".join([f"{count}: {spaced(order)}\n" for count, order in mixture])


def lines_of(thing):
    """The lines of a text, none where it has no signs; refused where the last has no line end."""
    if not isinstance(thing, str):
        raise NoText()
    lines = thing.split("\n")
    if lines[-1] != "":
        raise NoText()
    return lines[:-1]


def read_head(line):
    """The number behind the word house; None where the line is not written so."""
    words = line.split(" ")
    return read_number(words[1], MOST_FIGURES) if len(words) == 2 and words[0] == "house" else None


def read_house(thing):
    """The house of a text."""
    lines = lines_of(thing)
    if len(lines) != 2:
        raise NoText()
    house = (read_head(lines[0]), read_numbers(lines[1].split(" "), MOST_FIGURES))
    if None in house:
        raise NoText()
    check_house(house)
    return house


def read_pieces(many, thing):
    """The pieces of a text, for so many things."""
    pieces = tuple([read_piece(line.split(" "), MOST_FIGURES) for line in lines_of(thing)])
    if None in pieces:
        raise NoText()
    check_pieces(many, pieces)
    return pieces


def read_share(line):
    """The pair of a count and things that a mixture's line is; parts that are not written so are None."""
    count, colon, order = line.partition(": ")
    return (read_number(count, MOST_COUNT_FIGURES), read_things(order.split(" ")))


def read_mixture(many, thing):
    """The mixture of a text, of so many things."""
    mixture = tuple([read_share(line) for line in lines_of(thing)])
    if not is_mixture(many, mixture):
        raise NoText()
    return mixture

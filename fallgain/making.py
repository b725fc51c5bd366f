"""Houses made of pieces."""

from fallgain.errors import NoMany, NoPiece, NoSet
from fallgain.pieces import is_piece, worth_of
from fallgain.sets import is_many, is_set

MOST_PIECES = 30


def check_pieces(many, pieces):
    """Refuse what is not a many, and pieces for so many things."""
    if not is_many(many):
        raise NoMany()
    if not isinstance(pieces, tuple):
        raise NoPiece(0)
    if len(pieces) > MOST_PIECES:
        raise NoPiece(MOST_PIECES)
    for at, piece in enumerate(pieces):
        if not is_piece(many, piece):
            raise NoPiece(at)


def worth_together(many, pieces, members):
    """The worths that all pieces give to the set."""
    return sum([worth_of(many, piece, members) for piece in pieces])


def house_of(many, pieces):
    """The house in which each set has the worths of all pieces together."""
    check_pieces(many, pieces)
    return (many, tuple([worth_together(many, pieces, members) for members in range(1 << many)]))


def worth_by(many, pieces, members):
    """The worth of a set in the house of these pieces."""
    check_pieces(many, pieces)
    if not is_set(many, members):
        raise NoSet()
    return worth_together(many, pieces, members)

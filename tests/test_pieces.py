"""Pieces: point 7, and the first sentence of point 8."""

import copy
import itertools
import unittest

from examples import BOUND, FAR, bits, changed, nested, no_numbers
from fallgain.houses import check_house
from fallgain.pieces import is_piece, worth_of

PIECES = {
    1: [("sum", (5,)), ("meet", 3, 1), ("whole", 3, 1), ("bent", 1, (-2,)), ("rank", 4, (1,)), ("rank", 4, (0,))],
    3: [
        ("sum", (0, 0, 0)),
        ("sum", (BOUND, -BOUND, 7)),
        ("meet", 0, 7),
        ("meet", BOUND, 5),
        ("meet", 2, 2),
        ("whole", 0, 1),
        ("whole", BOUND, 6),
        ("whole", 9, 7),
        ("cut", 0, 0, 1),
        ("cut", 6, 0, 2),
        ("cut", BOUND, 2, 0),
        ("bent", 7, (BOUND, 0, -BOUND)),
        ("bent", 5, (3, 3)),
        ("bent", 5, (3, 2)),
        ("bent", 2, (-4,)),
        ("rank", 0, (1, 2, 3)),
        ("rank", BOUND, (1, 2, 3)),
        ("rank", 2, (5, 5, 0)),
        ("rank", 2, (0, 0, 0)),
        ("rank", 2, (1023, 512, 511)),
    ],
    4: [
        ("rank", 3, (3, 5, 6, 8)),
        ("rank", 3, (7, 7, 7, 7)),
        ("rank", 1, (1, 2, 4, 7)),
        ("rank", 1, (6, 3, 5, 1)),
        ("rank", 1, (12, 10, 6, 9)),
    ],
    10: [
        ("sum", tuple(range(-5, 5))),
        ("meet", 1, 1023),
        ("cut", 1, 9, 0),
        ("bent", 1023, tuple(range(9, -1, -1))),
        ("rank", 1, (1023, 1, 2, 4, 8, 16, 32, 64, 128, 256)),
        ("rank", 1, (512, 256, 128, 64, 32, 16, 8, 4, 2, 1)),
        ("rank", 1, (3, 6, 12, 24, 48, 96, 192, 384, 768, 513)),
    ],
}


def are_free(marks):
    """Whether no choice of one or more has each bit an even number of times."""
    for size in range(1, len(marks) + 1):
        for choice in itertools.combinations(marks, size):
            if all(sum(mark >> bit & 1 for mark in choice) % 2 == 0 for bit in range(10)):
                return False
    return True


def rank_by_choices(marks):
    for size in range(len(marks), 0, -1):
        if any(are_free(choice) for choice in itertools.combinations(marks, size)):
            return size
    return 0


def expected_worth(piece, number):
    """A piece's worth of a set by the words of the document."""
    kind = piece[0]
    if kind == "sum":
        return sum(price for thing, price in enumerate(piece[1]) if number & 2 ** thing)
    if kind == "meet":
        return piece[1] if number & piece[2] else 0
    if kind == "whole":
        return -piece[1] if number & piece[2] == piece[2] else 0
    if kind == "cut":
        return piece[1] if number & 2 ** piece[2] and not number & 2 ** piece[3] else 0
    if kind == "bent":
        return sum(piece[2][:bits(number & piece[1])])
    return piece[1] * rank_by_choices([mark for thing, mark in enumerate(piece[2]) if number & 2 ** thing])


def all_pieces():
    return [(many, piece) for many in PIECES for piece in PIECES[many]]


class IsPieceTest(unittest.TestCase):
    def is_one(self, many, thing):
        self.assertIs(is_piece(many, thing), True, (many, thing))

    def is_none(self, many, thing):
        before = copy.deepcopy(thing)
        self.assertIs(is_piece(many, thing), False, (many, thing))
        self.assertIs(is_piece(many, thing), False, (many, thing))
        self.assertEqual(thing, before)

    def test_pieces(self):
        for many, piece in all_pieces():
            self.is_one(many, piece)
            self.is_one(many, piece)

    def test_a_list_for_a_tuple(self):
        for many, piece in all_pieces():
            self.is_none(many, list(piece))
            for at, part in enumerate(piece):
                if isinstance(part, tuple):
                    self.is_none(many, changed(piece, at, list(part)))
                    self.is_none(many, changed(piece, at, dict(enumerate(part))))

    def test_a_part_more_or_less(self):
        for many, piece in all_pieces():
            self.is_none(many, piece[:-1])
            self.is_none(many, piece[1:])
            self.is_none(many, piece + (1,))
            self.is_none(many, piece + ((),))
            self.is_none(many, (piece,))
            self.is_none(many, piece[:1])

    def test_another_word(self):
        for many, piece in all_pieces():
            for word in ("", "sums", "Sum", "sum ", "su", "x" * 100000, 0, FAR, *no_numbers()):
                self.is_none(many, changed(piece, 0, word))

    def test_the_word_of_another_piece(self):
        for piece in PIECES[3]:
            for word in ("sum", "meet", "whole", "cut", "bent", "rank"):
                if word != piece[0] and {word, piece[0]} != {"meet", "whole"}:
                    self.is_none(3, changed(piece, 0, word))
        self.is_one(3, ("whole", 4, 6))
        self.is_one(3, ("meet", 4, 6))

    def test_no_number_for_a_number(self):
        for many, piece in all_pieces():
            for at in range(1, len(piece)):
                part = piece[at]
                for value in no_numbers():
                    if not isinstance(part, tuple):
                        self.is_none(many, changed(piece, at, value))
                        continue
                    for place in range(len(part)):
                        self.is_none(many, changed(piece, at, changed(part, place, value)))
                    if value != (1,):
                        self.is_none(many, changed(piece, at, value))

    def test_truths_where_they_are_alike_to_numbers(self):
        self.is_none(1, ("sum", (True,)))
        self.is_none(1, ("meet", True, 1))
        self.is_none(1, ("meet", 1, True))
        self.is_none(1, ("whole", False, 1))
        self.is_none(2, ("cut", 1, False, 1))
        self.is_none(2, ("cut", 1, 0, True))
        self.is_none(1, ("bent", True, (1,)))
        self.is_none(1, ("bent", 1, (True,)))
        self.is_none(1, ("rank", 1, (True,)))
        self.is_none(1, ("rank", True, (1,)))

    def test_one_more_or_fewer_inside(self):
        for many, piece in all_pieces():
            for at, part in enumerate(piece):
                if isinstance(part, tuple):
                    self.is_none(many, changed(piece, at, part[:-1]))
                    self.is_none(many, changed(piece, at, part + part[-1:]))

    def test_bounds_of_prices(self):
        for edge, beyond in ((BOUND, BOUND + 1), (-BOUND, -BOUND - 1)):
            for far in (beyond, FAR if edge > 0 else -FAR):
                for at in range(2):
                    self.is_one(2, ("sum", changed((0, 0), at, edge)))
                    self.is_none(2, ("sum", changed((0, 0), at, far)))
                self.is_one(2, ("bent", 3, (edge, edge)))
                self.is_none(2, ("bent", 3, (far, far)))
                self.is_none(1, ("bent", 1, (far,)))
        self.is_one(2, ("bent", 3, (BOUND, -BOUND)))
        self.is_none(2, ("bent", 3, (BOUND + 1, -BOUND)))
        self.is_none(2, ("bent", 3, (BOUND, -BOUND - 1)))

    def test_bounds_of_weights(self):
        for make in (lambda w: ("meet", w, 1), lambda w: ("whole", w, 1), lambda w: ("cut", w, 0, 1),
                     lambda w: ("rank", w, (1, 2))):
            self.is_one(2, make(0))
            self.is_one(2, make(BOUND))
            for weight in (-1, BOUND + 1, FAR, -FAR):
                self.is_none(2, make(weight))

    def test_bounds_of_parts(self):
        for many in range(1, 11):
            for make in (lambda s: ("meet", 1, s), lambda s: ("whole", 1, s), lambda s: ("bent", s, (0,) * bits(s))):
                for parts in (1, 2 ** many - 1, 2 ** (many - 1)):
                    self.is_one(many, make(parts))
                for parts in (0, 2 ** many, 2 ** many + 1, -1, -2 ** many, FAR):
                    self.is_none(many, make(parts))
        self.is_none(1, ("bent", 0, ()))

    def test_bounds_of_marks(self):
        self.is_one(2, ("rank", 1, (0, 1023)))
        for mark in (-1, 1024, FAR, -FAR):
            self.is_none(2, ("rank", 1, (mark, 0)))
            self.is_none(2, ("rank", 1, (0, mark)))

    def test_things_of_a_cut(self):
        for many in range(1, 11):
            for one, other in itertools.product(range(-1, many + 1), repeat=2):
                right = one != other and 0 <= one < many and 0 <= other < many
                self.assertIs(is_piece(many, ("cut", 1, one, other)), right)
        self.is_none(2, ("cut", 1, FAR, 0))
        self.is_none(2, ("cut", 1, 0, -FAR))

    def test_gains_that_rise_by_one(self):
        gains = (4, 4, 2, 0, -3)
        self.is_one(5, ("bent", 31, gains))
        for at in range(1, 5):
            self.is_none(5, ("bent", 31, changed(gains, at, gains[at - 1] + 1)))
            self.is_one(5, ("bent", 31, gains[:at] + (gains[at - 1],) + (-3,) * (4 - at)))

    def test_as_many_gains_as_parts(self):
        for parts in range(1, 32):
            for size in range(7):
                right = size == bits(parts)
                self.assertIs(is_piece(5, ("bent", parts, (1,) * size)), right)

    def test_another_many(self):
        self.is_none(2, ("sum", (1, 2, 3)))
        self.is_none(4, ("sum", (1, 2, 3)))
        self.is_none(2, ("rank", 1, (1, 2, 3)))
        self.is_none(4, ("rank", 1, (1, 2, 3)))
        for piece in (("meet", 1, 4), ("whole", 1, 7), ("cut", 1, 2, 0), ("cut", 1, 0, 2), ("bent", 5, (1, 1))):
            self.is_none(1, piece)
            self.is_none(2, piece)
            for many in range(3, 11):
                self.is_one(many, piece)

    def test_no_piece_at_all(self):
        for value in [0, 1, FAR, -FAR, *no_numbers(), nested(29), ("sum",), ((),), ([],), ({}, 1), (["sum"], (1,)),
                      "sum", "x" * 100000, tuple(range(20000)), ("sum", tuple(range(19990))), ("sum", nested(28))]:
            for many in range(1, 11):
                self.is_none(many, value)

    def test_somewhat_beyond_no_error_comes(self):
        for many in (-2, -1, 0, 11, 12):
            for known, piece in all_pieces():
                self.assertIn(is_piece(many, piece), (True, False))


class WorthOfTest(unittest.TestCase):
    def test_every_set_of_each_piece(self):
        for many, piece in all_pieces():
            numbers = range(2 ** many) if many < 10 else (0, 1, 2, 3, 5, 513, 512, 64, 255, 682)
            for number in numbers:
                with self.subTest(piece=piece, number=number):
                    expected = expected_worth(piece, number)
                    self.assertEqual(worth_of(many, piece, number), expected)
                    self.assertEqual(worth_of(many, piece, number), expected)
                    self.assertIs(type(worth_of(many, piece, number)), int)

    def test_named_worths(self):
        self.assertEqual(worth_of(3, ("sum", (5, -2, 9)), 0), 0)
        self.assertEqual(worth_of(3, ("sum", (5, -2, 9)), 3), 3)
        self.assertEqual(worth_of(3, ("meet", 4, 6), 1), 0)
        self.assertEqual(worth_of(3, ("meet", 4, 6), 3), 4)
        self.assertEqual(worth_of(3, ("whole", 4, 6), 3), 0)
        self.assertEqual(worth_of(3, ("whole", 4, 6), 7), -4)
        self.assertEqual(worth_of(3, ("cut", 4, 0, 2), 3), 4)
        self.assertEqual(worth_of(3, ("cut", 4, 0, 2), 5), 0)
        self.assertEqual(worth_of(3, ("cut", 4, 0, 2), 4), 0)
        self.assertEqual(worth_of(3, ("bent", 6, (5, -9)), 1), 0)
        self.assertEqual(worth_of(3, ("bent", 6, (5, -9)), 5), 5)
        self.assertEqual(worth_of(3, ("bent", 6, (5, -9)), 7), -4)

    def test_marks_alike_and_nought(self):
        self.assertEqual(worth_of(3, ("rank", 5, (6, 6, 6)), 7), 5)
        self.assertEqual(worth_of(3, ("rank", 5, (0, 6, 0)), 7), 5)
        self.assertEqual(worth_of(3, ("rank", 5, (0, 6, 0)), 5), 0)

    def test_marks_that_are_even_together(self):
        self.assertEqual(worth_of(3, ("rank", 1, (3, 5, 6)), 7), 2)
        self.assertEqual(worth_of(4, ("rank", 1, (1, 2, 4, 7)), 15), 3)
        self.assertEqual(worth_of(4, ("rank", 1, (12, 10, 6, 9)), 15), 3)
        ring = (3, 6, 12, 24, 48, 96, 192, 384, 768, 513)
        self.assertEqual(worth_of(10, ("rank", 7, ring), 1023), 63)
        self.assertEqual(worth_of(10, ("rank", 7, ring), 511), 63)
        self.assertEqual(worth_of(10, ("rank", 7, ring), 255), 56)

    def test_ranks_of_all_marks_of_three_bits(self):
        for marks in itertools.product(range(8), repeat=3):
            self.assertEqual(worth_of(3, ("rank", 1, marks), 7), rank_by_choices(marks))

    def test_order_of_marks_does_not_matter(self):
        for marks in itertools.permutations((9, 3, 10, 12, 5)):
            self.assertEqual(worth_of(5, ("rank", 1, marks), 31), 3)

    def test_each_piece_alone_is_a_house(self):
        for many, piece in all_pieces():
            worths = tuple(worth_of(many, piece, number) for number in range(2 ** many))
            self.assertIs(check_house((many, worths)), True)


if __name__ == "__main__":
    unittest.main()

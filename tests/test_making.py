"""Houses made of pieces: points 8 and 9."""

import copy
import itertools
import unittest

from examples import BOUND, FAR, nested, no_numbers
from fallgain.errors import NoMany, NoPiece, NoSet
from fallgain.houses import check_house
from fallgain.making import house_of, worth_by
from fallgain.pieces import worth_of

ONE_OF_EACH = (
    ("sum", (4, -3, 0)),
    ("meet", 5, 3),
    ("whole", 2, 6),
    ("cut", 7, 0, 2),
    ("bent", 7, (3, 1, -8)),
    ("rank", 2, (3, 5, 6)),
)
WRONG = ("meet", 5, 8)
NO_MANY = [0, -1, 11, 12, FAR, -FAR, *no_numbers()]


def many_pieces(many):
    """Thirty pieces for so many things, whose worths are as great as can be."""
    full = 2 ** many - 1
    kinds = (
        ("sum", (BOUND,) * many),
        ("sum", (-BOUND,) * many),
        ("meet", BOUND, full),
        ("whole", BOUND, full),
        ("bent", full, (BOUND,) * many),
        ("rank", BOUND, tuple(2 ** thing for thing in range(many))),
    )
    return kinds * 5


class HouseOfTest(unittest.TestCase):
    def test_no_pieces(self):
        for many in range(1, 11):
            self.assertEqual(house_of(many, ()), (many, (0,) * 2 ** many))

    def test_one_of_each(self):
        self.assertEqual(house_of(2, (("sum", (3, 4)), ("whole", 2, 3))), (2, (0, 3, 4, 5)))
        for piece in ONE_OF_EACH:
            house = house_of(3, (piece,))
            self.assertEqual(house, (3, tuple(worth_of(3, piece, number) for number in range(8))))
            self.assertIs(check_house(house), True)

    def test_each_choice_of_pieces_comes_together(self):
        for size in range(len(ONE_OF_EACH) + 1):
            for pieces in itertools.combinations(ONE_OF_EACH, size):
                house = house_of(3, pieces)
                expected = tuple(sum(worth_of(3, piece, number) for piece in pieces) for number in range(8))
                self.assertEqual(house, (3, expected))
                self.assertIs(check_house(house), True)

    def test_a_piece_twice_counts_twice(self):
        self.assertEqual(house_of(1, (("meet", 5, 1),) * 2), (1, (0, 10)))

    def test_thirty_pieces(self):
        for many in (1, 3, 10):
            self.assertIs(check_house(house_of(many, many_pieces(many))), True)
        self.assertEqual(house_of(1, (("meet", BOUND, 1),) * 30), (1, (0, 30 * BOUND)))
        sums = house_of(10, (("sum", (-BOUND,) * 10),) * 30)
        self.assertIs(check_house(sums), True)
        self.assertEqual(sums[1][-1], -300 * BOUND)

    def test_the_pieces_stay(self):
        pieces = copy.deepcopy(ONE_OF_EACH)
        self.assertEqual(house_of(3, pieces), house_of(3, pieces))
        self.assertEqual(pieces, ONE_OF_EACH)

    def test_what_is_told_is_plain(self):
        house = house_of(3, ONE_OF_EACH)
        self.assertIs(type(house), tuple)
        self.assertIs(type(house[1]), tuple)
        self.assertEqual({type(number) for number in house[1]}, {int})


class RefusalsTest(unittest.TestCase):
    """house_of and worth_by refuse alike, so both are asked."""

    def asked(self, many, pieces):
        before = copy.deepcopy((many, pieces))
        yield lambda: house_of(many, pieces)
        for number in (0, 7, -1, FAR, None):
            yield lambda number=number: worth_by(many, pieces, number)
        self.assertEqual((many, pieces), before)

    def no_many(self, many, pieces):
        for ask in self.asked(many, pieces):
            with self.assertRaises(NoMany):
                ask()

    def no_piece(self, many, pieces, at):
        for ask in self.asked(many, pieces):
            with self.assertRaises(NoPiece) as caught:
                ask()
            self.assertEqual(caught.exception.at, at)

    def test_no_many(self):
        for many in NO_MANY:
            self.no_many(many, ())
            self.no_many(many, (("meet", 1, 1),))

    def test_no_many_comes_first(self):
        for many in NO_MANY:
            for pieces in (None, [], (WRONG,), (WRONG,) * 31, (None,)):
                self.no_many(many, pieces)

    def test_no_tuple(self):
        for pieces in (0, 5, FAR, True, None, "", "sum", [], list(ONE_OF_EACH), {}, {0: ("meet", 1, 1)}):
            self.no_piece(3, pieces, 0)

    def test_more_than_thirty(self):
        right = ("meet", 1, 1)
        self.no_piece(3, (right,) * 31, 30)
        self.no_piece(3, (right,) * 32, 30)
        self.no_piece(3, (0,) * 20000, 30)
        self.no_piece(3, (WRONG,) + (right,) * 30, 30)
        self.no_piece(3, (right,) * 5 + (None,) + (right,) * 25, 30)
        self.no_piece(3, (right,) * 30 + (WRONG,), 30)

    def test_the_first_that_is_none(self):
        right = ("meet", 1, 1)
        for at in range(30):
            self.no_piece(3, (right,) * at + (WRONG,) * (30 - at), at)
            self.no_piece(3, (right,) * at + (WRONG,) + (right,) * (29 - at), at)
        for value in [0, 1, FAR, *no_numbers(), list(right), nested(28)]:
            self.no_piece(3, (right, value, WRONG), 1)

    def test_a_piece_itself_is_no_tuple_of_pieces(self):
        self.no_piece(3, ("meet", 1, 1), 0)

    def test_a_piece_for_another_many(self):
        self.no_piece(2, ONE_OF_EACH, 0)
        self.no_piece(2, ONE_OF_EACH[1:], 1)
        self.no_piece(4, ONE_OF_EACH[1:], 4)


class WorthByTest(unittest.TestCase):
    def test_as_in_the_house(self):
        for many, pieces in ((3, ()), (3, ONE_OF_EACH), (1, many_pieces(1)), (5, many_pieces(5))):
            worths = house_of(many, pieces)[1]
            for number in range(2 ** many):
                self.assertEqual(worth_by(many, pieces, number), worths[number])
                self.assertEqual(worth_by(many, pieces, number), worths[number])

    def test_no_set(self):
        for pieces in ((), ONE_OF_EACH):
            for number in [8, 9, 1023, 1024, -1, -8, FAR, -FAR, *no_numbers()]:
                with self.assertRaises(NoSet):
                    worth_by(3, pieces, number)

    def test_of_ten_things(self):
        self.assertEqual(worth_by(10, (("sum", tuple(range(10))),), 1023), 45)
        with self.assertRaises(NoSet):
            worth_by(10, (), 1024)


if __name__ == "__main__":
    unittest.main()

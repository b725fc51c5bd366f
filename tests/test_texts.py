"""Texts of houses, pieces and mixtures: point 33."""

import copy
import random
import re
import unittest

from examples import (BOUND, EDGE, FAR, drawn_mixture, edge_houses, is_plain, nested, no_numbers, some_houses, summed,
                      ten_houses)
from fallgain.errors import Crossing, GainError, NoHouse, NoPiece, NoText
from fallgain.houses import check_house
from fallgain.least import least
from fallgain.making import house_of
from fallgain.mixtures import is_mixture
from fallgain.pieces import is_piece
from fallgain.texts import house_text, mixture_text, pieces_text, read_house, read_mixture, read_pieces

PIECES = (("sum", (3, -4, 0)), ("meet", 7, 6), ("whole", 0, 1), ("cut", BOUND, 2, 0), ("bent", 5, (8, -8)),
          ("rank", 2, (3, 1023, 0)), ("meet", 1, 7), ("whole", 9, 5), ("bent", 2, (-BOUND,)), ("sum", (BOUND, -BOUND, 1)))
LINES = ("sum 3 -4 0\nmeet 7 1 2\nwhole 0 0\ncut 1000000000 2 0\nbent 8 -8 of 0 2\nrank 2 3 1023 0\nmeet 1 0 1 2\n"
         "whole 9 0 2\nbent -1000000000 of 1\nsum 1000000000 -1000000000 1\n")
SIGNS = "0123456789-: \nahousemtwlbcrnkf~+._,"

NUMBER = "(?:0|-?[1-9][0-9]{0,17})"
WRITTEN = {
    "sum": f"sum(?: {NUMBER})+", "meet": f"meet {NUMBER}(?: [0-9])+", "whole": f"whole {NUMBER}(?: [0-9])+",
    "cut": f"cut {NUMBER} [0-9] [0-9]", "bent": f"bent(?: {NUMBER})+ of(?: [0-9])+", "rank": f"rank {NUMBER}(?: {NUMBER})+",
}


def is_rising(things):
    return all(one < other for one, other in zip(things, things[1:]))


def is_written_line(line):
    """Whether a line of a piece is written so, by the words of the document."""
    word = line.split(" ")[0]
    if word not in WRITTEN or not re.fullmatch(WRITTEN[word], line):
        return False
    words = line.split(" ")
    parts = {"meet": words[2:], "whole": words[2:], "bent": words[words.index("of") + 1:] if word == "bent" else []}
    return is_rising(parts.get(word, []))


def are_written_lines(text):
    return text == "" or text.endswith("\n") and all(map(is_written_line, text[:-1].split("\n")))


def is_written_house(text):
    return bool(re.fullmatch(f"house {NUMBER}\n{NUMBER}(?: {NUMBER})*\n", text))


def one_sign_otherwise(text):
    """The text with one sign put in, taken out, or put otherwise."""
    told = []
    for at in range(len(text) + 1):
        told.append(text[:at] + text[at + 1:])
        for sign in SIGNS:
            told.append(text[:at] + sign + text[at:])
            told.append(text[:at] + sign + text[at + 1:])
    return [other for other in dict.fromkeys(told) if other != text]


class TextsCase(unittest.TestCase):
    def refused(self, error, read, *given):
        before = copy.deepcopy(given)
        with self.assertRaises(error) as caught:
            read(*given)
        self.assertIs(type(caught.exception), error, given)
        self.assertEqual(given, before)
        return caught.exception


class HouseTextTest(TextsCase):
    def test_to_the_sign(self):
        self.assertEqual(house_text((1, (0, -7))), "house 1\n0 -7\n")
        self.assertEqual(house_text((2, (0, 3, 4, 5))), "house 2\n0 3 4 5\n")
        self.assertEqual(house_text((2, (0, EDGE, -EDGE, 0))), "house 2\n0 1000000000000000 -1000000000000000 0\n")
        self.assertTrue(house_text(ten_houses()[0]).startswith("house 10\n0 5 5 10 "))

    def test_read_back(self):
        for house in some_houses() + edge_houses() + ten_houses():
            text = house_text(house)
            self.assertIs(type(text), str)
            self.assertEqual(text, f"house {house[0]}\n" + " ".join(map(str, house[1])) + "\n")
            told = read_house(text)
            self.assertEqual(told, house)
            self.assertTrue(is_plain(told))
            self.assertEqual(read_house(text), told)

    def test_one_sign_otherwise(self):
        seen = {"NoText": 0, "NoHouse": 0, "Crossing": 0, "read": 0}
        for house in ((1, (0, -7)), (2, (0, 30, 4, 10))):
            for text in one_sign_otherwise(house_text(house)):
                seen[self.compare(text)] += 1
        self.assertGreater(min(seen.values()), 5, seen)

    def compare(self, text):
        """Hold what is read of a text against the words of the document; tell what it was."""
        if not is_written_house(text):
            self.refused(NoText, read_house, text)
            return "NoText"
        head, worths = text.split("\n")[:2]
        house = (int(head[6:]), tuple(map(int, worths.split(" "))))
        try:
            check_house(house)
        except GainError as due:
            error = self.refused(type(due), read_house, text)
            self.assertEqual(vars(error), vars(due))
            return type(due).__name__
        self.assertEqual(read_house(text), house)
        return "read"

    def test_written_so_but_no_house(self):
        for text in ("house 2\n0\n", "house 0\n0\n", "house -1\n0 0\n", "house 11\n0 0\n", "house 2\n0 3 4 5 6\n", "house 1\n5\n",
                     "house 999999999999999999\n0 0\n", "house 1\n0 999999999999999999\n", "house 1\n0 1000000000000001\n",
                     "house 1\n1 1\n", "house 2\n0 3 4\n", "house 1\n-999999999999999999 0\n", "house 10\n0 0\n"):
            self.refused(NoHouse, read_house, text)
        error = self.refused(Crossing, read_house, "house 2\n0 3 4 8\n")
        self.assertEqual((error.where, error.one, error.other), (0, 0, 1))

    def test_not_written_so(self):
        for text in ("", "\n", "\n\n", "house 1", "house 1\n", "house 1\n\n", "house 1\n0 7", "house 1\n0 7\n\n", "house 1\n0 7\n \n",
                     "house 1 \n0 7\n", " house 1\n0 7\n", "house  1\n0 7\n", "house\n0 7\n", "house \n0 7\n", "house 1\n 0 7\n",
                     "house 1\n0 7 \n", "house 1\n0  7\n", "house 01\n0 7\n", "house 1\n0 07\n", "house 1\n-0 7\n", "house 1\n0 -\n",
                     "house 1\n00 7\n", "house 1\n0 +7\n", "house 1\n0 7.\n", "house 1\n0 --7\n", "house 1\n0 -07\n", "HOUSE 1\n0 7\n",
                     "house one\n0 7\n", "house 1 1\n0 7\n", "house1\n0 7\n", "house 1\n0 1_0\n", "house 1\n0 7\nhouse 1\n0 7\n",
                     "house 1\n0 1000000000000000000\n", "house 1\n0 -1000000000000000000\n", "house 1000000000000000000\n0 7\n",
                     "\nhouse 1\n0 7\n", "house 1\n\n0 7\n", "house 1\n0\n7\n", "house 1\n0 7\n0 7\n", "house 2\n0 3 4 5 x\n"):
            self.refused(NoText, read_house, text)

    def test_thousands_of_figures(self):
        for size in (19, 100, 4300, 4301, 90000):
            self.refused(NoText, read_house, "house 1\n0 " + "9" * size + "\n")
            self.refused(NoText, read_house, "house 1\n0 -" + "9" * size + "\n")
            self.refused(NoText, read_house, "house " + "1" * size + "\n0 7\n")
        self.refused(NoHouse, read_house, "house 1\n0 " + "9" * 18 + "\n")
        self.refused(NoHouse, read_house, "house 1\n0 -" + "9" * 18 + "\n")

    def test_other_kinds(self):
        for value in [0, 1, FAR, *no_numbers(), nested(29), (1, (0, 7)), ["house 1\n0 7\n"], ("house 1\n0 7\n",), "x" * 100000,
                      "\n" * 100000, " " * 100000, {"house 1\n0 7\n": 1}]:
            self.refused(NoText, read_house, value)


class PiecesTextTest(TextsCase):
    def test_to_the_sign(self):
        self.assertEqual(pieces_text(PIECES), LINES)
        self.assertEqual(pieces_text(()), "")
        self.assertEqual(pieces_text((("meet", 3, 1023),)), "meet 3 0 1 2 3 4 5 6 7 8 9\n")
        self.assertEqual(pieces_text((("cut", 0, 9, 0),)), "cut 0 9 0\n")
        self.assertEqual(pieces_text((("bent", 768, (1, 1)),)), "bent 1 1 of 8 9\n")
        self.assertEqual(pieces_text((("rank", 5, (1023,)),)), "rank 5 1023\n")

    def test_read_back(self):
        self.assertEqual(read_pieces(3, LINES), PIECES)
        self.assertTrue(is_plain(tuple(piece[1:] for piece in read_pieces(3, LINES))))
        self.assertEqual(read_pieces(3, LINES), PIECES)
        for size in range(len(PIECES) + 1):
            self.assertEqual(read_pieces(3, pieces_text(PIECES[:size])), PIECES[:size])
        self.assertEqual(read_pieces(3, pieces_text(PIECES * 3)), PIECES * 3)
        self.assertEqual(house_of(3, read_pieces(3, LINES)), house_of(3, PIECES))

    def test_no_pieces(self):
        for many in range(1, 11):
            self.assertEqual(read_pieces(many, ""), ())

    def test_drawn_pieces(self):
        dice = random.Random(1101)
        for turn in range(200):
            many = dice.randint(1, 10)
            pieces = tuple(drawn_piece(dice, many) for piece in range(dice.randint(0, 6)))
            self.assertTrue(all(is_piece(many, piece) for piece in pieces))
            self.assertEqual(read_pieces(many, pieces_text(pieces)), pieces)

    def compare(self, many, text):
        if not are_written_lines(text):
            self.refused(NoText, read_pieces, many, text)
            return "NoText"
        pieces = tuple(map(piece_by_words, text[:-1].split("\n"))) if text else ()
        wrong = [at for at, piece in enumerate(pieces) if not is_piece(many, piece)]
        if len(pieces) > 30 or wrong:
            at = 30 if len(pieces) > 30 else wrong[0]
            self.assertEqual(self.refused(NoPiece, read_pieces, many, text).at, at)
            return "NoPiece"
        self.assertEqual(read_pieces(many, text), pieces)
        return "read"

    def test_one_sign_otherwise(self):
        seen = {"NoText": 0, "NoPiece": 0, "read": 0}
        for piece in PIECES[:6]:
            for text in one_sign_otherwise(pieces_text((piece,))):
                seen[self.compare(3, text)] += 1
        for text in one_sign_otherwise(pieces_text((("sum", (3, -4)), ("meet", 7, 3)))):
            seen[self.compare(2, text)] += 1
        self.assertGreater(min(seen.values()), 100, seen)

    def test_written_so_but_no_piece(self):
        for line in ("sum 1 2", "sum 1 2 3 4", "sum 1000000001 0 0", "meet -1 0", "meet 1000000001 0", "meet 5 3", "meet 5 0 9",
                     "whole 999999999999999999 0", "cut 5 1 1", "cut 5 0 3", "cut -5 0 1", "bent 1 of 0 1", "bent 1 2 of 0 1",
                     "bent 2 1 of 0", "bent 1000000001 of 0", "bent 1 of 3", "rank 5 1 2", "rank 5 1 2 1024", "rank 5 1 2 -1",
                     "rank -1 0 0 0", "sum 5", "rank 0 0"):
            self.assertEqual(self.refused(NoPiece, read_pieces, 3, line + "\n").at, 0)
            self.assertEqual(self.refused(NoPiece, read_pieces, 3, "sum 0 0 0\nmeet 5 0\n" + line + "\n").at, 2)
            self.assertEqual(self.refused(NoPiece, read_pieces, 3, line + "\n" + line + "\n").at, 0)
            # A line that is not written so comes first, wherever it stands.
            self.refused(NoText, read_pieces, 3, line + "\nmeet 5\n")

    def test_not_written_so(self):
        for text in ("\n", " \n", "sum\n", "sum \n", "sum 1 2 3", "sum 1 2 3\n\n", "\nsum 1 2 3\n", "sum  1 2 3\n", "sum 1 2 3 \n",
                     " sum 1 2 3\n", "Sum 1 2 3\n", "sums 1 2 3\n", "sum 1 2 x\n", "sum 01 2 3\n", "sum -0 2 3\n", "meet\n", "meet 5\n",
                     "meet 5 1 0\n", "meet 5 1 1\n", "meet 5 10\n", "meet 5 -1\n", "meet 5 01\n", "meet 5 0 \n", "meet 05 0\n", "whole 5\n",
                     "whole 5 2 1\n", "cut 5 0\n", "cut 5 0 1 2\n", "cut 5 0 10\n", "cut 0 1\n", "cut 5 -1 0\n", "bent of 0\n",
                     "bent 1 of\n", "bent 1 0\n", "bent 1 of 0 of 1\n", "bent 1 of 1 0\n", "bent 1 of 0 0\n", "bent 1 of 10\n", "bent of\n",
                     "bent\n", "bent 1 OF 0\n", "bent 1  of 0\n", "rank\n", "rank 5\n", "rank 5 \n", "rank 5 1 2 03\n", "of 1\n", "none\n",
                     "sum 1000000000000000000 0 0\n", "rank 1000000000000000000 0 0 0\n", "meet 5 0\n \n", "meet 5 0\n\nmeet 5 0\n"):
            self.refused(NoText, read_pieces, 3, text)

    def test_thirty_and_thirty_one(self):
        line = "meet 5 0\n"
        self.assertEqual(read_pieces(1, line * 30), (("meet", 5, 1),) * 30)
        self.assertEqual(self.refused(NoPiece, read_pieces, 1, line * 31).at, 30)
        self.assertEqual(self.refused(NoPiece, read_pieces, 1, "meet 5 1\n" + line * 30).at, 30)
        self.assertEqual(self.refused(NoPiece, read_pieces, 1, line * 5000).at, 30)
        self.refused(NoText, read_pieces, 1, line * 31 + "meet\n")

    def test_things_by_many(self):
        for many in range(1, 11):
            for thing in range(10):
                text = f"meet 5 {thing}\n"
                if thing < many:
                    self.assertEqual(read_pieces(many, text), (("meet", 5, 2 ** thing),))
                else:
                    self.assertEqual(self.refused(NoPiece, read_pieces, many, text).at, 0)

    def test_thousands_of_figures(self):
        for size in (19, 4300, 4301, 90000):
            for text in ("sum " + "9" * size, "meet " + "9" * size + " 0", "meet 5 " + "9" * size, "rank 5 " + "9" * size,
                         "bent " + "-" + "9" * size + " of 0"):
                self.refused(NoText, read_pieces, 1, text + "\n")

    def test_other_kinds(self):
        for value in [0, 1, FAR, *no_numbers(), nested(29), PIECES, [LINES], (LINES,), "x" * 100000, "\n" * 100000, " " * 100000]:
            if value != "":
                self.refused(NoText, read_pieces, 3, value)


def piece_by_words(line):
    """The piece of a line that is written so."""
    words = line.split(" ")
    if words[0] == "bent":
        at = words.index("of")
        return ("bent", sum(2 ** int(thing) for thing in words[at + 1:]), tuple(map(int, words[1:at])))
    numbers = tuple(map(int, words[1:]))
    if words[0] in ("meet", "whole"):
        return (words[0], numbers[0], sum(2 ** thing for thing in numbers[1:]))
    if words[0] == "rank":
        return ("rank", numbers[0], numbers[1:])
    return ("sum", numbers) if words[0] == "sum" else ("cut",) + numbers


def drawn_piece(dice, many):
    """A piece for so many things, drawn by the dice."""
    word = dice.choice(("sum", "meet", "whole", "cut", "bent", "rank") if many > 1 else ("sum", "meet", "whole", "rank"))
    weight, parts = dice.choice((0, 1, 50, BOUND)), dice.randint(1, 2 ** many - 1)
    if word == "sum":
        return ("sum", tuple(dice.randint(-BOUND, BOUND) for thing in range(many)))
    if word == "cut":
        return ("cut", weight, *dice.sample(range(many), 2))
    if word == "bent":
        return ("bent", parts, tuple(sorted((dice.randint(-9, 9) for part in range(bin(parts).count("1"))), reverse=True)))
    if word == "rank":
        return ("rank", weight, tuple(dice.randint(0, 1023) for thing in range(many)))
    return (word, weight, parts)


class MixtureTextTest(TextsCase):
    def test_to_the_sign(self):
        self.assertEqual(mixture_text(((1, (0,)),)), "1: 0\n")
        self.assertEqual(mixture_text(((3, (1, 0, 2)), (12, (2, 1, 0)))), "3: 1 0 2\n12: 2 1 0\n")
        self.assertEqual(mixture_text(((10 ** 18, tuple(range(10))),)), "1000000000000000000: 0 1 2 3 4 5 6 7 8 9\n")

    def test_read_back(self):
        dice = random.Random(1102)
        for turn in range(100):
            many = dice.randint(1, 10)
            mixture = drawn_mixture(dice, many, dice.randint(1, 8), dice.choice((1, 9, 10 ** 18, 10 ** 200)))
            text = mixture_text(mixture)
            self.assertEqual(read_mixture(many, text), mixture)
            self.assertTrue(is_plain(read_mixture(many, text)))
            for other in range(1, 11):
                if other != many:
                    self.refused(NoText, read_mixture, other, text)
        for house in some_houses():
            mixture = least(house)[1]
            self.assertEqual(read_mixture(house[0], mixture_text(mixture)), mixture)

    def test_a_thousand_pairs(self):
        mixture = ((5, (1, 0)),) * 1000
        self.assertEqual(read_mixture(2, mixture_text(mixture)), mixture)

    def test_counts_of_a_thousand_figures(self):
        for size in (18, 19, 20, 999, 1000):
            count = 10 ** size - 1
            text = mixture_text(((count, (0, 1)),))
            self.assertEqual(text, "9" * size + ": 0 1\n")
            self.assertEqual(read_mixture(2, text), ((count, (0, 1)),))
        for size in (1001, 1002, 4300, 4301, 90000):
            self.refused(NoText, read_mixture, 2, "9" * size + ": 0 1\n")
            self.refused(NoText, read_mixture, 2, "1: 0 " + "1" * size + "\n")

    def test_one_sign_otherwise(self):
        seen = {True: 0, False: 0}
        for text, many in (("3: 1 0\n", 2), ("12: 0 2 1\n7: 2 1 0\n", 3)):
            for other in one_sign_otherwise(text):
                mixture = mixture_by_words(many, other)
                if mixture is None:
                    self.refused(NoText, read_mixture, many, other)
                else:
                    self.assertEqual(read_mixture(many, other), mixture)
                seen[mixture is None] += 1
        self.assertGreater(min(seen.values()), 50)

    def test_no_mixture(self):
        for text in ("", "\n", "1: 0 1", "1: 0\n", "1: 0 1 2\n", "1: 0 0\n", "1: 0 2\n", "0: 0 1\n", "-1: 0 1\n", "01: 0 1\n", "1:0 1\n",
                     "1 : 0 1\n", "1: 0  1\n", "1:  0 1\n", "1: 0 1 \n", " 1: 0 1\n", "1 0 1\n", ": 0 1\n", "1: \n", "1:\n", "1\n", "1:: 0 1\n",
                     "1: 0 1\n\n", "1: 0 1\n1: 0\n", "1: 0 01\n", "1: -0 1\n", "1: 0,1\n", "1: 01\n", "1: 0 1: 0 1\n", "1: 0 1\n \n",
                     "x: 0 1\n", "1: 0 x\n", "+1: 0 1\n", "1: 0 1\n1: 1 1\n", "1; 0 1\n", "1.: 0 1\n", "\n1: 0 1\n"):
            self.refused(NoText, read_mixture, 2, text)

    def test_other_kinds(self):
        for value in [0, 1, FAR, *no_numbers(), nested(29), ((1, (0, 1)),), ["1: 0 1\n"], "x" * 100000, "\n" * 100000,
                      " " * 100000, ":" * 100000, ": " * 50000]:
            self.refused(NoText, read_mixture, 2, value)


def mixture_by_words(many, text):
    """The mixture of a text, or None."""
    if not re.fullmatch("(?:[1-9][0-9]{0,999}:(?: [0-9])+\n)+", text):
        return None
    pairs = [line.split(": ") for line in text[:-1].split("\n")]
    mixture = tuple((int(count), tuple(map(int, order.split(" ")))) for count, order in pairs)
    return mixture if is_mixture(many, mixture) else None


class SumsTest(TextsCase):
    def test_texts_of_sums(self):
        house = summed(2, (BOUND, -BOUND))
        self.assertEqual(read_house(house_text(house)), house_of(2, read_pieces(2, "sum 1000000000 -1000000000\n")))


if __name__ == "__main__":
    unittest.main()

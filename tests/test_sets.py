"""Sets: point 4."""

import itertools
import unittest

from fallgain.sets import set_of, things_in


class SetsTest(unittest.TestCase):
    def test_no_things(self):
        self.assertEqual(things_in(0), ())
        self.assertEqual(set_of(()), 0)

    def test_each_thing_alone(self):
        for thing in range(10):
            self.assertEqual(things_in(2 ** thing), (thing,))
            self.assertEqual(set_of((thing,)), 2 ** thing)

    def test_all_ten(self):
        self.assertEqual(things_in(1023), tuple(range(10)))
        self.assertEqual(set_of(tuple(range(10))), 1023)

    def test_every_set_is_told_by_its_rising_things(self):
        for size in range(11):
            for things in itertools.combinations(range(10), size):
                number = sum(2 ** thing for thing in things)
                self.assertEqual(things_in(number), things)
                self.assertEqual(set_of(things), number)

    def test_another_order_is_the_same_set(self):
        for things in itertools.permutations((0, 3, 7, 9)):
            self.assertEqual(set_of(things), 1 + 8 + 128 + 512)

    def test_the_tuple_handed_in_stays(self):
        things = (5, 2, 9)
        self.assertEqual(set_of(things), set_of(things))
        self.assertEqual(things, (5, 2, 9))

    def test_what_is_told_is_plain(self):
        self.assertIs(type(things_in(5)), tuple)
        self.assertIs(type(set_of((2, 0))), int)

    def test_somewhat_beyond_no_error_comes(self):
        self.assertEqual(things_in(1024), (10,))
        self.assertEqual(set_of((10, 0)), 1025)
        self.assertIs(type(things_in(-1)), tuple)
        self.assertIs(type(set_of((-1,))), int)
        self.assertEqual(set_of((1, 1)), 2)


if __name__ == "__main__":
    unittest.main()

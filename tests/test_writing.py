import unittest
from itertools import combinations

from fieldclaim.writing import written


class Written(unittest.TestCase):
    def test_the_examples_of_the_document(self):
        self.assertEqual(written((5, ((0, 1, 2), (2, 3, 4)))), "5 : 0 1 2 , 2 3 4")
        self.assertEqual(written((5, ())), "5 :")

    def test_one_line(self):
        self.assertEqual(written((3, ((1,),))), "3 : 1")
        self.assertEqual(written((4, ((0, 3),))), "4 : 0 3")

    def test_several_lines(self):
        self.assertEqual(written((3, ((0,), (0, 1), (1, 2)))), "3 : 0 , 0 1 , 1 2")
        self.assertEqual(written((4, ((0, 1, 2, 3), (1,), (2,), (3,)))), "4 : 0 1 2 3 , 1 , 2 , 3")

    def test_one_point(self):
        self.assertEqual(written((1, ())), "1 :")
        self.assertEqual(written((1, ((0,),))), "1 : 0")

    def test_the_greatest_field(self):
        whole = tuple(range(9))
        lines = (whole,) + tuple(whole[:k] + whole[k + 1 :] for k in range(7, -1, -1)) + ((8,),)
        self.assertEqual(len(lines), 10)
        self.assertEqual(
            written((9, lines)),
            "9 : 0 1 2 3 4 5 6 7 8 , 0 1 2 3 4 5 6 8 , 0 1 2 3 4 5 7 8 , 0 1 2 3 4 6 7 8"
            " , 0 1 2 3 5 6 7 8 , 0 1 2 4 5 6 7 8 , 0 1 3 4 5 6 7 8 , 0 2 3 4 5 6 7 8"
            " , 1 2 3 4 5 6 7 8 , 8",
        )

    def test_somewhat_beyond_the_bounds_nothing_is_refused(self):
        self.assertEqual(written((12, ((0, 10), (11,)))), "12 : 0 10 , 11")

    def test_unlike_fields_are_written_unlike(self):
        subsets = [line for size in (1, 2, 3) for line in combinations(range(3), size)]
        fields = [
            (many, lines)
            for many in (3, 4)
            for size in range(len(subsets) + 1)
            for lines in combinations(sorted(subsets), size)
        ]
        self.assertEqual(len(set(written(field) for field in fields)), len(fields))

    def test_what_is_handed_in_stays_and_the_same_is_told_again(self):
        field = (5, ((0, 1, 2), (2, 3, 4)))
        first = written(field)
        written((5, ()))
        self.assertEqual(written(field), first)
        self.assertEqual(repr(field), "(5, ((0, 1, 2), (2, 3, 4)))")


if __name__ == "__main__":
    unittest.main()

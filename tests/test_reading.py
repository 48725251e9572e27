import re
import unittest
from itertools import combinations, product

from plain_judge import all_lines

from fieldclaim.errors import FieldError, NoClaim, NoText
from fieldclaim.reading import read
from fieldclaim.things import is_field
from fieldclaim.writing import written

SIGNS = [chr(code) for code in range(ord(" "), ord("~") + 1)]
WHOLE = tuple(range(9))
TEN_LINES = (WHOLE,) + tuple(WHOLE[:k] + WHOLE[k + 1 :] for k in range(7, -1, -1)) + ((8,),)
FIELDS = (
    (1, ()),
    (1, ((0,),)),
    (3, ((1,),)),
    (5, ()),
    (5, ((0, 1, 2), (2, 3, 4))),
    (4, ((0, 1, 2, 3), (1,), (2,), (3,))),
    (9, ()),
    (9, (WHOLE,)),
    (9, ((8,),)),
    (9, TEN_LINES),
    (9, tuple((point,) for point in WHOLE)),
)


def all_fields(many, most):
    return [(many, lines) for size in range(most + 1) for lines in combinations(all_lines(many), size)]


# A second judge, by a pattern and the plain order of lists.
def is_writing(text):
    if not re.fullmatch(r"[1-9] :( [0-8]( [0-8])*( , [0-8]( [0-8])*)*)?", text):
        return False
    rows = [[int(word) for word in row.split()] for row in text[3:].split(",")] if len(text) > 3 else []
    points_fit = all(row == sorted(set(row)) and row[-1] < int(text[0]) for row in rows)
    return points_fit and len(rows) <= 10 and all(rows[k] < rows[k + 1] for k in range(len(rows) - 1))


class Read(unittest.TestCase):
    def refused(self, text):
        with self.assertRaises(NoText, msg=repr(text)):
            read(text)

    def judged(self, text):
        if is_writing(text):
            self.assertEqual(written(read(text)), text)
            self.assertTrue(is_field(read(text)))
        else:
            self.refused(text)

    def test_the_examples_of_the_document(self):
        self.assertEqual(repr(read("5 : 0 1 2 , 2 3 4")), "(5, ((0, 1, 2), (2, 3, 4)))")
        self.assertEqual(repr(read("5 :")), "(5, ())")

    def test_what_is_written_is_read(self):
        for field in FIELDS:
            self.assertEqual(repr(read(written(field))), repr(field))

    def test_all_small_fields(self):
        for field in all_fields(1, 1) + all_fields(2, 3) + all_fields(3, 7) + all_fields(9, 1):
            self.assertEqual(repr(read(written(field))), repr(field))

    def test_the_empty_text_and_blanks(self):
        for text in ("", " ", "  ", " :", ": ", " : "):
            self.refused(text)

    def test_a_blank_too_many_at_each_place(self):
        for field in FIELDS:
            text = written(field)
            for place in range(len(text) + 1):
                self.refused(text[:place] + " " + text[place:])
                self.refused(text[:place] + "  " + text[place:])

    def test_a_blank_too_few_at_each_place(self):
        for field in FIELDS:
            text = written(field)
            for place in range(len(text)):
                if text[place] == " ":
                    self.refused(text[:place] + text[place + 1 :])
            self.refused(text.replace(" ", ""))

    def test_a_word_left_out(self):
        for text in ("5", "5 0", "5 0 1", "5 0 1 , 2", ":", ": 0 1", ": 0 1 , 2", "0 1 , 2", "", "5 : 0 1 ,", "5 : , 2"):
            self.refused(text)
        self.assertEqual(read("5 : 0 2 , 2 3 4"), (5, ((0, 2), (2, 3, 4))))

    def test_a_word_doubled_or_put_in(self):
        for text in (
            "5 5 :",
            "5 : :",
            "5 5 : 0 1",
            "5 : : 0 1",
            "5 : 0 0 1",
            "5 : 0 1 1",
            "5 : 0 1 , , 2",
            "5 : 0 1 , 1 0 , 2",
            "5 : 0 1 : 2",
            "5 : 0 1 , 2 :",
            ": 5 : 0 1",
            ", 5 : 0 1",
            "5 , : 0 1",
        ):
            self.refused(text)

    def test_words_left_out_doubled_put_in_and_exchanged_at_each_place(self):
        put_in = ("", ":", ",", "0", "1", "4", "5", "9", "10", "x")
        for field in FIELDS:
            words = written(field).split(" ")
            for k in range(len(words) + 1):
                self.judged(" ".join(words[:k] + words[k + 1 :]))
                self.judged(" ".join(words[:k] + words[k : k + 1] * 2 + words[k + 1 :]))
                for word in put_in:
                    self.judged(" ".join(words[:k] + [word] + words[k:]))
                    self.judged(" ".join(words[:k] + [word] + words[k + 1 :]))

    def test_a_number_written_otherwise(self):
        self.assertEqual(read("5 : 0 1"), (5, ((0, 1),)))
        for word in ("00", "01", "+1", "-1", "1_0", "+0", "-0", "0_1", "_1", "1_", "1.0", "1e0", "0x1", "1.", "one", "I"):
            for text in (f"5 : {word}", f"5 : 0 {word}", f"5 : {word} 2", f"5 : 0 , {word}", f"5 : {word} , 2"):
                self.refused(text)
        for word in ("00", "01", "05", "+5", "-5", "1_0", "5_", "_5", "5.0", "0x5", "5e0", "five", "V"):
            for text in (f"{word} :", f"{word} : 0", f"{word} : 0 1 , 2"):
                self.refused(text)
        self.refused("1" * 5000 + " :")
        self.refused("5 : " + "1" * 5000)

    def test_points_beyond_the_field(self):
        for many in range(1, 10):
            self.assertEqual(read(f"{many} : {many - 1}"), (many, ((many - 1,),)))
            for point in (many, many + 1, 10, 11, 99):
                for text in (f"{many} : {point}", f"{many} : 0 {point}", f"{many} : 0 , {point}"):
                    self.refused(text)

    def test_lines_that_fall_or_stand_twice(self):
        for text in (
            "5 : 1 0",
            "5 : 0 2 1",
            "5 : 0 , 2 1",
            "5 : 1 , 0",
            "5 : 0 1 , 0",
            "5 : 1 , 0 1 2",
            "5 : 2 3 4 , 0 1 2",
            "5 : 0 , 0",
            "5 : 0 1 , 0 1",
            "5 : 0 , 1 , 1",
            "5 : 0 , 1 , 0",
        ):
            self.refused(text)

    def test_empty_lines_and_commas_at_wrong_places(self):
        for text in (
            "5 : ,",
            "5 : , ,",
            "5 : , 0",
            "5 : 0 ,",
            "5 : 0 , , 1",
            "5 ,",
            "5 , 0",
            ", 5 :",
            "5 , :",
            "5 : 0, 1",
            "5 : 0 ,1",
            "5 : 0,1",
            "5 :,",
            "5 : 0 1 ,",
        ):
            self.refused(text)

    def test_colons_at_wrong_places(self):
        for text in (":", ": 5", ":5", "5:", "5: 0", "5 :0", "5 0 :", "5 : 0 :", "5 : :", ": 5 :", "5 : 0 : 1", "5 , 0 : 1"):
            self.refused(text)

    def test_eleven_lines(self):
        for many in range(4, 10):
            lines = tuple(all_lines(many))
            self.assertEqual(read(written((many, lines[:10]))), (many, lines[:10]))
            self.refused(written((many, lines[:11])))
            self.refused(written((many, lines[:12])))
        self.refused(written((9, TEN_LINES[:-1] + ((7,), (8,)))))

    def test_no_points_or_ten(self):
        for many in (0, 10, 11, 12, 99, -1):
            for text in (f"{many} :", f"{many} : 0", f"{many} : 0 1 , 2"):
                self.refused(text)
        self.refused("10 : 9")

    def test_other_signs_at_each_place(self):
        for field in FIELDS[:7]:
            text = written(field)
            for place in range(len(text) + 1):
                for sign in SIGNS:
                    self.judged(text[:place] + sign + text[place:])
                    self.judged(text[:place] + sign + text[place + 1 :])
        for sign in SIGNS:
            self.judged(sign)
            self.judged(sign + " :")
            self.judged("5 " + sign)
            self.judged("5 : " + sign)
            self.judged("5 : 0 " + sign + " 1")

    def test_just_the_writings_among_all_short_texts(self):
        fields = [field for many in (1, 2) for field in all_fields(many, 3)]
        writings = {written(field) for field in fields if len(written(field)) <= 6}
        told = set()
        for size in range(7):
            for signs in product(" :,012", repeat=size):
                text = "".join(signs)
                try:
                    self.assertEqual(written(read(text)), text)
                    told.add(text)
                except NoText:
                    pass
        self.assertEqual(told, writings)

    def test_the_refusal_is_taken_by_those_above_and_is_no_no_claim(self):
        for error in (NoText, FieldError, ValueError):
            with self.assertRaises(error):
                read("5 : 1 0")
        try:
            read("5")
        except FieldError as e:
            self.assertNotIsInstance(e, NoClaim)

    def test_the_same_is_told_again(self):
        first = read("5 : 0 1 2 , 2 3 4")
        read("5 :")
        self.refused("5 : 0 1 2 , 2 3 5")
        self.assertEqual(read("5 : 0 1 2 , 2 3 4"), first)


if __name__ == "__main__":
    unittest.main()

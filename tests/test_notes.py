"""Promise 12: a floor, a sun and folk as a text, written and read."""

import unittest

from shadeseats import notes
from shadeseats.errors import BadFloor, BadFolk, BadSun, BadText
from shadeseats.notes import read, written

FLOOR = (3, 4, ((1, 2, 3), (0, 0, 1)), ((0, 1), (2, 3), (0, 0)))
FOLK = (((2, 2), "near"), ((0, 3), "first"), ((1, 1), "stay"))
TEXT = """floor 3 4
post 1 2 3
post 0 0 1
awning 0 1
awning 2 3
awning 0 0
sun oesw
folk 2 2 near
folk 0 3 first
folk 1 1 stay"""
SMALL = "floor 2 3\nsun n"


def rows(*lines):
    return "\n".join(lines)


class Interface(unittest.TestCase):
    def test_defined_here(self):
        for name in ("written", "read"):
            self.assertEqual(getattr(notes, name).__module__, "shadeseats.notes")

    def test_arguments_by_name(self):
        self.assertEqual(written(floor=(2, 3, (), ()), sun="n", folk=()), SMALL)
        self.assertEqual(read(text=SMALL), ((2, 3, (), ()), "n", ()))


class Written(unittest.TestCase):
    def test_rows(self):
        self.assertEqual(written(FLOOR, "oesw", FOLK), TEXT)

    def test_least(self):
        self.assertEqual(written((1, 1, (), ()), "o", ()), "floor 1 1\nsun o")

    def test_some_kinds_alone(self):
        self.assertEqual(written((5, 5, ((4, 4, 4),), ()), "neswon", ()), "floor 5 5\npost 4 4 4\nsun neswon")
        self.assertEqual(written((1, 2, (), ((0, 1),)), "e", ()), "floor 1 2\nawning 0 1\nsun e")
        self.assertEqual(written((1, 2, (), ()), "e", (((0, 1), "stay"),)), "floor 1 2\nsun e\nfolk 0 1 stay")

    def test_the_first_wrong_thing_is_refused(self):
        with self.assertRaises(BadFloor):
            written((0, 1, (), ()), "x", None)
        with self.assertRaises(BadSun):
            written((1, 1, (), ()), "x", None)
        with self.assertRaises(BadFolk):
            written((1, 1, (), ()), "n", None)


class Read(unittest.TestCase):
    def test_what_is_written(self):
        self.assertEqual(read(TEXT), (FLOOR, "oesw", FOLK))
        self.assertIsInstance(read(TEXT), tuple)

    def test_what_is_written_is_read_to_the_same(self):
        posts = ((4, 4, 4), (0, 0, 1), (2, 3, 2), (1, 1, 3))
        hung = tuple((row, column) for row in range(2) for column in range(4))
        floors = [
            (5, 5, posts[:many], hung[:more]) for many in range(5) for more in range(9)
        ]
        folk = (((4, 0), "near"), ((0, 4), "first"), ((3, 3), "stay"), ((1, 0), "near"))
        for floor in floors:
            for sun in ("n", "ew", "ooo", "neswoe"):
                for many in range(5):
                    text = written(floor, sun, folk[:many])
                    self.assertEqual(read(text), (floor, sun, folk[:many]))
                    self.assertEqual(written(*read(text)), text)

    def test_what_is_told_is_of_the_same_kinds(self):
        floor, sun, folk = read(TEXT)
        for thing in (floor, floor[2], floor[3], folk, floor[2][0], floor[3][0], folk[0], folk[0][0]):
            self.assertIs(thing.__class__, tuple)
        for number in (floor[0], floor[1], floor[2][0][2], floor[3][0][1], folk[0][0][0]):
            self.assertIs(number.__class__, int)

    def test_asked_again_the_same(self):
        self.assertEqual(read(TEXT), read(TEXT))
        self.assertEqual(written(FLOOR, "oesw", FOLK), TEXT)


class BadTexts(unittest.TestCase):
    def refused(self, text, row):
        with self.assertRaises(BadText, msg=text) as held:
            read(text)
        self.assertEqual(held.exception.row, row, text)

    def test_the_empty_text(self):
        self.refused("", 0)

    def test_no_text(self):
        for thing in ((), ("floor 1 1",), [], ["floor 1 1", "sun n"], 0, 1, True, False, None):
            self.refused(thing, 0)

    def test_empty_rows(self):
        self.refused("\n", 0)
        self.refused("\n" + SMALL, 0)
        self.refused(SMALL + "\n", 2)
        self.refused("floor 2 3\n\nsun n", 1)
        self.refused(TEXT + "\n", 10)

    def test_blanks_too_many(self):
        good = TEXT.split("\n")
        for number, row in enumerate(good):
            wrong = [" " + row, row + " ", row.replace(" ", "  ", 1), row.replace(" ", "  "), row + "  "]
            for line in wrong:
                self.refused(rows(*good[:number], line, *good[number + 1:]), number)
        self.refused(" ", 0)
        self.refused("floor 2 3\nsun ", 1)
        self.refused("floor 2 3\nsun", 1)
        self.refused("floor 2 3\nsun  n", 1)
        self.refused("floor 2 3\nsun n\nfolk 0 0 ", 2)
        self.refused("floor 2 \nsun n", 0)
        self.refused("floor  3\nsun n", 0)

    def test_words_that_are_none(self):
        for word in ("Floor", "FLOOR", "floors", "flo", "wall", "0", "-", "2"):
            self.refused(rows(word + " 2 3", "sun n"), 0)
        for word in ("Sun", "suns", "moon", "posts", "awnings", "Folk", "0"):
            self.refused(rows("floor 2 3", word + " n"), 1)
            self.refused(rows("floor 2 3", "sun n", word + " 0 0 near"), 2)

    def test_how_many_words(self):
        for row in ("floor", "floor 2", "floor 2 3 4", "floor23"):
            self.refused(rows(row, "sun n"), 0)
        for row in ("post", "post 0", "post 0 0", "post 0 0 1 1", "awning", "awning 0", "awning 0 0 0", "sun", "sun n e"):
            self.refused(rows("floor 2 3", row, "sun n"), 1)
        for row in ("folk", "folk 0", "folk 0 0", "folk 0 near", "folk 0 0 near near", "folk 0 0 0 near", "folk near"):
            self.refused(rows("floor 2 3", "sun n", row), 2)

    def test_numbers_of_one_figure(self):
        for word in ("10", "02", "-1", "+1", "1.", "x", "one", "1,", "0x1", "12", "01", "123", "near"):
            self.refused(rows(f"floor {word} 3", "sun n"), 0)
            self.refused(rows(f"floor 3 {word}", "sun n"), 0)
            for at in range(3):
                post = ["0", "0", "1"]
                post[at] = word
                self.refused(rows("floor 5 5", "post " + " ".join(post), "sun n"), 1)
            self.refused(rows("floor 5 5", f"awning {word} 0", "sun n"), 1)
            self.refused(rows("floor 5 5", f"awning 0 {word}", "sun n"), 1)
            self.refused(rows("floor 5 5", "sun n", f"folk {word} 0 near"), 2)
            self.refused(rows("floor 5 5", "sun n", f"folk 0 {word} near"), 2)

    def test_no_floor_at_first(self):
        self.refused("sun n", 0)
        self.refused("post 0 0 1\nfloor 2 3\nsun n", 0)
        self.refused("awning 0 0\nsun n", 0)
        self.refused("folk 0 0 near", 0)
        self.refused("sun n\nfloor 2 3", 0)

    def test_another_floor(self):
        self.refused("floor 2 3\nfloor 2 3\nsun n", 1)
        self.refused("floor 2 3\npost 0 0 1\nfloor 2 3\nsun n", 2)
        self.refused("floor 2 3\nsun n\nfloor 2 3", 2)
        self.refused("floor 2 3\nfloor 2 3", 1)

    def test_behind_a_row_of_a_later_kind(self):
        self.refused("floor 2 3\nawning 0 0\npost 0 0 1\nsun n", 2)
        self.refused("floor 2 3\npost 0 0 1\nawning 0 0\npost 0 1 1\nsun n", 3)
        self.refused("floor 2 3\nsun n\npost 0 0 1", 2)
        self.refused("floor 2 3\nsun n\nawning 0 0", 2)
        self.refused("floor 2 3\nsun n\nfolk 0 0 near\npost 0 1 1", 3)
        self.refused("floor 2 3\nsun n\nfolk 0 0 near\nawning 0 1", 3)

    def test_a_second_sun(self):
        self.refused("floor 2 3\nsun n\nsun n", 2)
        self.refused("floor 2 3\nsun n\nsun e\nfolk 0 0 near", 2)
        self.refused("floor 2 3\nsun n\nfolk 0 0 near\nsun n", 3)

    def test_folk_without_a_sun(self):
        self.refused("floor 2 3\nfolk 0 0 near", 1)
        self.refused("floor 2 3\nfolk 0 0 near\nsun n", 1)
        self.refused("floor 2 3\npost 0 0 1\nawning 0 0\nfolk 0 1 near\nsun n", 3)

    def test_no_sun(self):
        self.refused("floor 2 3", 1)
        self.refused("floor 2 3\npost 0 0 1", 2)
        self.refused("floor 2 3\npost 0 0 1\nawning 0 1\nawning 0 2", 4)

    def test_the_first_of_two_wrong_rows(self):
        self.refused("floor 2 3\npost 0 0\nfloor 2 3\nsun n", 1)
        self.refused("floor 2 3\nfloor 2 3\npost 0 0\nsun n", 1)
        self.refused("floor 2 3\nsun n\nsun n\nfolk 0 0", 2)
        self.refused("floor 2 3\npost 0 0", 1)

    def test_rows_go_ahead_of_the_floor_the_sun_and_the_folk(self):
        self.refused("floor 9 9\nsun n\nfolk 0 0", 2)
        self.refused("floor 0 0", 1)
        self.refused("floor 2 3\npost 9 9 9\nsun xxx\nsun n", 3)
        self.refused("floor 2 3\nsun x\nfolk 0 0 near\nfolk 0 0 far\npost 0 0 1", 4)


class BadThings(unittest.TestCase):
    """Rows that are all right by their form, of things that can't be."""

    def floor_refused(self, text, part, number):
        with self.assertRaises(BadFloor, msg=text) as held:
            read(text)
        self.assertEqual((held.exception.part, held.exception.number), (part, number), text)

    def numbered(self, error, text, number):
        with self.assertRaises(error, msg=text) as held:
            read(text)
        self.assertEqual(held.exception.number, number, text)

    def test_floors(self):
        self.floor_refused("floor 0 3\nsun n", 0, 0)
        self.floor_refused("floor 6 9\nsun n", 0, 0)
        self.floor_refused("floor 3 6\nsun n", 1, 0)
        self.floor_refused("floor 2 3\npost 2 0 1\nsun n", 2, 0)
        self.floor_refused("floor 2 3\npost 0 0 1\npost 0 1 5\nsun n", 2, 1)
        self.floor_refused("floor 2 3\npost 0 0 0\nsun n", 2, 0)
        self.floor_refused("floor 2 3\npost 0 0 1\npost 0 0 1\nsun n", 2, 1)
        self.floor_refused("floor 2 3\nawning 0 0\nawning 0 3\nsun n", 3, 1)
        self.floor_refused("floor 2 3\nawning 0 0\nawning 0 0\nsun n", 3, 1)

    def test_one_too_many(self):
        posts = [f"post 0 {column} 1" for column in range(5)]
        self.floor_refused(rows("floor 5 5", *posts, "sun n"), 2, 4)
        hung = [f"awning {row} {column}" for row in range(2) for column in range(5)]
        self.floor_refused(rows("floor 5 5", *hung, "sun n"), 3, 8)
        self.numbered(BadSun, "floor 1 1\nsun neswone", 6)
        folk = [f"folk 0 {column} near" for column in range(5)]
        self.numbered(BadFolk, rows("floor 5 5", "sun n", *folk), 4)

    def test_suns(self):
        self.numbered(BadSun, "floor 1 1\nsun x", 0)
        self.numbered(BadSun, "floor 1 1\nsun nesN", 3)
        self.numbered(BadSun, "floor 1 1\nsun 1", 0)

    def test_folk(self):
        self.numbered(BadFolk, "floor 2 3\nsun n\nfolk 2 0 near", 0)
        self.numbered(BadFolk, "floor 2 3\nsun n\nfolk 0 0 near\nfolk 0 0 near", 1)
        self.numbered(BadFolk, "floor 2 3\nsun n\nfolk 0 0 far", 0)
        self.numbered(BadFolk, "floor 2 3\nsun n\nfolk 0 1 near\nfolk 0 0 1", 1)
        self.numbered(BadFolk, "floor 2 3\npost 0 1 1\nsun n\nfolk 0 1 near", 0)

    def test_the_floor_then_the_sun_then_the_folk(self):
        self.floor_refused("floor 6 3\nsun x\nfolk 9 9 far", 0, 0)
        self.floor_refused("floor 5 3\nawning 9 9\nsun x\nfolk 9 9 far", 3, 0)
        self.numbered(BadSun, "floor 5 3\nsun x\nfolk 9 9 far", 0)
        self.numbered(BadFolk, "floor 5 3\nsun n\nfolk 9 9 far", 0)


if __name__ == "__main__":
    unittest.main()

"""Promises 2 to 4: what lies in the shade on a floor, and where two floors part."""

import unittest

from shadeseats import floors
from shadeseats.floors import parted, shade

FAR = 10 ** 18

# The middle of a floor of 5 by 5, a post of each height.
MIDDLE = {high: (5, 5, ((2, 2, high),), ()) for high in (1, 2, 3, 4)}


class Interface(unittest.TestCase):
    def test_defined_here(self):
        for name in ("shade", "parted"):
            self.assertEqual(getattr(floors, name).__module__, "shadeseats.floors")

    def test_arguments_by_name(self):
        floor = (1, 2, ((0, 0, 1),), ())
        self.assertEqual(shade(floor=floor, sun="e", beat=0), [(0, 1)])
        self.assertEqual(parted(floor=floor, other=(1, 2, (), ()), sun="e"), (0, (0, 1)))


class Posts(unittest.TestCase):
    def test_up(self):
        self.assertEqual(shade(MIDDLE[1], "n", 0), [(1, 2)])
        self.assertEqual(shade(MIDDLE[2], "n", 0), [(0, 2), (1, 2)])

    def test_right(self):
        self.assertEqual(shade(MIDDLE[1], "e", 0), [(2, 3)])
        self.assertEqual(shade(MIDDLE[2], "e", 0), [(2, 3), (2, 4)])

    def test_down(self):
        self.assertEqual(shade(MIDDLE[1], "s", 0), [(3, 2)])
        self.assertEqual(shade(MIDDLE[2], "s", 0), [(3, 2), (4, 2)])

    def test_left(self):
        self.assertEqual(shade(MIDDLE[1], "w", 0), [(2, 1)])
        self.assertEqual(shade(MIDDLE[2], "w", 0), [(2, 0), (2, 1)])

    def test_overhead_none(self):
        for high in (1, 2, 3, 4):
            self.assertEqual(shade(MIDDLE[high], "o", 0), [])

    def test_as_many_cells_as_it_is_high(self):
        for high in (1, 2, 3, 4):
            floor = (5, 5, ((4, 0, high),), ())
            self.assertEqual(shade(floor, "e", 0), [(4, column) for column in range(1, high + 1)])
            self.assertEqual(shade(floor, "n", 0), [(row, 0) for row in range(4 - high, 4)])
            floor = (5, 5, ((0, 4, high),), ())
            self.assertEqual(shade(floor, "w", 0), [(0, column) for column in range(4 - high, 4)])
            self.assertEqual(shade(floor, "s", 0), [(row, 4) for row in range(1, high + 1)])

    def test_what_lies_beyond_the_floor_does_not(self):
        for high in (3, 4):
            self.assertEqual(shade(MIDDLE[high], "n", 0), [(0, 2), (1, 2)])
            self.assertEqual(shade(MIDDLE[high], "e", 0), [(2, 3), (2, 4)])
            self.assertEqual(shade(MIDDLE[high], "s", 0), [(3, 2), (4, 2)])
            self.assertEqual(shade(MIDDLE[high], "w", 0), [(2, 0), (2, 1)])

    def test_floor_that_is_not_square(self):
        floor = (2, 4, ((0, 0, 4),), ())
        self.assertEqual(shade(floor, "e", 0), [(0, 1), (0, 2), (0, 3)])
        self.assertEqual(shade(floor, "s", 0), [(1, 0)])
        floor = (4, 2, ((3, 1, 4),), ())
        self.assertEqual(shade(floor, "n", 0), [(0, 1), (1, 1), (2, 1)])
        self.assertEqual(shade(floor, "w", 0), [(3, 0)])

    def test_shadows_pass_posts(self):
        floor = (1, 5, ((0, 0, 4), (0, 2, 1)), ())
        self.assertEqual(shade(floor, "e", 0), [(0, 1), (0, 2), (0, 3), (0, 4)])

    def test_shadows_pass_each_other(self):
        floor = (3, 3, ((1, 0, 2), (1, 1, 1)), ((1, 0), (1, 1)))
        self.assertEqual(shade(floor, "e", 0), [(1, 1), (1, 2)])

    def test_four_posts_rising(self):
        floor = (5, 5, ((4, 4, 1), (4, 0, 2), (0, 4, 1), (0, 0, 2)), ())
        self.assertEqual(shade(floor, "e", 0), [(0, 1), (0, 2), (4, 1), (4, 2)])
        self.assertEqual(shade(floor, "s", 0), [(1, 0), (1, 4), (2, 0)])
        self.assertEqual(shade(floor, "n", 0), [(2, 0), (3, 0), (3, 4)])
        self.assertEqual(shade(floor, "w", 0), [(0, 3), (4, 3)])


class Awnings(unittest.TestCase):
    def test_one_further_to_each_side(self):
        floor = (3, 3, (), ((1, 1),))
        self.assertEqual(shade(floor, "n", 0), [(0, 1)])
        self.assertEqual(shade(floor, "e", 0), [(1, 2)])
        self.assertEqual(shade(floor, "s", 0), [(2, 1)])
        self.assertEqual(shade(floor, "w", 0), [(1, 0)])

    def test_overhead_below_it(self):
        self.assertEqual(shade((3, 3, (), ((1, 1),)), "o", 0), [(1, 1)])

    def test_beyond_the_floor(self):
        floor = (1, 1, (), ((0, 0),))
        for sign in "nesw":
            self.assertEqual(shade(floor, sign, 0), [])
        self.assertEqual(shade(floor, "o", 0), [(0, 0)])
        corner = (3, 4, (), ((2, 3),))
        self.assertEqual(shade(corner, "s", 0), [])
        self.assertEqual(shade(corner, "e", 0), [])
        self.assertEqual(shade(corner, "n", 0), [(1, 3)])
        self.assertEqual(shade(corner, "w", 0), [(2, 2)])

    def test_over_a_post(self):
        floor = (1, 4, ((0, 1, 2),), ((0, 1),))
        self.assertEqual(shade(floor, "o", 0), [(0, 1)])
        self.assertEqual(shade(floor, "e", 0), [(0, 2), (0, 3)])
        self.assertEqual(shade(floor, "w", 0), [(0, 0)])

    def test_onto_a_post(self):
        self.assertEqual(shade((1, 2, ((0, 1, 1),), ((0, 0),)), "e", 0), [(0, 1)])

    def test_eight_awnings_rising(self):
        hung = ((4, 4), (3, 3), (2, 2), (1, 1), (0, 0), (0, 4), (4, 0), (1, 3))
        floor = (5, 5, (), hung)
        self.assertEqual(shade(floor, "o", 0), sorted(hung))
        self.assertEqual(
            shade(floor, "n", 0),
            [(0, 1), (0, 3), (1, 2), (2, 3), (3, 0), (3, 4)],
        )


class Beats(unittest.TestCase):
    FLOOR = (3, 3, ((1, 1, 1),), ((0, 0),))
    BY_SIGN = {
        "n": [(0, 1)],
        "e": [(0, 1), (1, 2)],
        "s": [(1, 0), (2, 1)],
        "w": [(1, 0)],
        "o": [(0, 0)],
    }

    def test_a_sign_for_each_beat(self):
        for beat, sign in enumerate("oeswns"):
            self.assertEqual(shade(self.FLOOR, "oeswns", beat), self.BY_SIGN[sign])

    def test_then_from_the_first_on_again(self):
        for sun in ("n", "es", "esw", "neso", "neswo", "oonesw"):
            for beat in range(20):
                self.assertEqual(shade(self.FLOOR, sun, beat), self.BY_SIGN[sun[beat % len(sun)]])

    def test_far_beats(self):
        # 10 ** 18 leaves 1 over by three and 4 over by six.
        self.assertEqual(shade(self.FLOOR, "nes", FAR), self.BY_SIGN["e"])
        self.assertEqual(shade(self.FLOOR, "nes", FAR - 1), self.BY_SIGN["n"])
        self.assertEqual(shade(self.FLOOR, "nesonw", FAR), self.BY_SIGN["n"])
        self.assertEqual(shade(self.FLOOR, "nesonw", FAR - 1), self.BY_SIGN["o"])

    def test_nothing_on_the_floor(self):
        for sign in "neswo":
            self.assertEqual(shade((1, 1, (), ()), sign, 0), [])
            self.assertEqual(shade((5, 5, (), ()), sign, FAR), [])

    def test_what_is_told_may_be_changed(self):
        first = shade(self.FLOOR, "e", 0)
        first.append((2, 2))
        del first[0]
        self.assertEqual(shade(self.FLOOR, "e", 0), self.BY_SIGN["e"])
        self.assertEqual(self.FLOOR, (3, 3, ((1, 1, 1),), ((0, 0),)))


class Parted(unittest.TestCase):
    def test_floors_that_are_the_same(self):
        floor = (3, 4, ((1, 1, 2),), ((0, 3),))
        self.assertIsNone(parted(floor, floor, "neswo"))
        self.assertIsNone(parted((1, 1, (), ()), (5, 5, (), ()), "neswo"))

    def test_unlike_floors_shaded_alike(self):
        self.assertIsNone(parted((1, 2, ((0, 0, 1),), ()), (1, 2, ((0, 0, 4),), ()), "neswo"))
        self.assertIsNone(parted((1, 2, ((0, 0, 1),), ()), (1, 2, (), ((0, 0),)), "ew"))
        self.assertIsNone(parted((2, 2, ((0, 0, 1),), ()), (2, 2, (), ()), "o"))

    def test_either_floor_alone(self):
        bare = (1, 3, (), ())
        post = (1, 3, ((0, 0, 2),), ())
        self.assertEqual(parted(post, bare, "e"), (0, (0, 1)))
        self.assertEqual(parted(bare, post, "e"), (0, (0, 1)))

    def test_what_both_have_does_not_part(self):
        one = (1, 4, ((0, 0, 2),), ())
        other = (1, 4, ((0, 0, 3),), ())
        self.assertEqual(parted(one, other, "e"), (0, (0, 3)))
        self.assertEqual(parted(other, one, "e"), (0, (0, 3)))

    def test_the_first_cell_of_either(self):
        one = (3, 3, (), ((2, 0), (0, 2)))
        other = (3, 3, (), ((2, 0), (1, 1)))
        self.assertEqual(parted(one, other, "o"), (0, (0, 2)))
        self.assertEqual(parted(other, one, "o"), (0, (0, 2)))

    def test_rows_go_ahead_of_columns(self):
        self.assertEqual(parted((3, 3, (), ((1, 0),)), (3, 3, (), ((0, 2),)), "o"), (0, (0, 2)))

    def test_beats_go_ahead_of_cells(self):
        one = (3, 3, ((2, 0, 1),), ())
        bare = (3, 3, (), ())
        self.assertEqual(parted(one, bare, "oen"), (1, (2, 1)))
        self.assertEqual(parted(one, bare, "wwosne"), (4, (1, 0)))
        self.assertEqual(parted(one, bare, "ooooon"), (5, (1, 0)))

    def test_a_cell_beyond_one_floor_is_in_no_shade_there(self):
        small = (1, 2, ((0, 0, 4),), ())
        wide = (1, 4, ((0, 0, 4),), ())
        self.assertEqual(parted(small, wide, "e"), (0, (0, 2)))
        self.assertEqual(parted(wide, small, "e"), (0, (0, 2)))
        tall = (3, 2, ((0, 0, 2),), ())
        self.assertEqual(parted(small, tall, "ews"), (2, (1, 0)))
        self.assertEqual(parted(tall, small, "ews"), (2, (1, 0)))

    def test_floors_of_other_sizes_shaded_alike(self):
        self.assertIsNone(parted((1, 3, ((0, 1, 1),), ()), (3, 3, ((0, 1, 1),), ()), "enwo"))

    def test_posts_in_the_shade_count(self):
        one = (1, 3, ((0, 0, 1), (0, 1, 1)), ())
        other = (1, 3, ((0, 1, 1),), ())
        self.assertEqual(parted(one, other, "e"), (0, (0, 1)))

    def test_asked_again_the_same(self):
        one = (3, 3, ((2, 0, 1),), ())
        for _ in range(3):
            self.assertEqual(parted(one, (3, 3, (), ()), "oen"), (1, (2, 1)))


if __name__ == "__main__":
    unittest.main()

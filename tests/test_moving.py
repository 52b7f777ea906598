"""Promises 5 and 6: how folk move in a beat, and when all comes again."""

import unittest

from shadeseats import moving
from shadeseats.moving import course, restless, scorched, seated

FAR = 10 ** 18


def hung(*cells):
    """A floor of 5 by 5 with awnings alone: by a sun overhead just these cells are in the shade."""
    return (5, 5, (), cells)


def behind_one(floor, *folk, sun="o"):
    return seated(floor, sun, folk, 1)


class Interface(unittest.TestCase):
    def test_defined_here(self):
        for name in ("seated", "course", "restless", "scorched"):
            self.assertEqual(getattr(moving, name).__module__, "shadeseats.moving")

    def test_arguments_by_name(self):
        floor = (1, 2, (), ((0, 1),))
        folk = (((0, 0), "near"),)
        self.assertEqual(seated(floor=floor, sun="o", folk=folk, many=1), ((0, 1),))
        self.assertEqual(course(floor=floor, sun="o", folk=folk), (1, 1, [((0, 0),), ((0, 1),)]))
        self.assertEqual(restless(floor=floor, sun="o", folk=folk), [])
        self.assertEqual(scorched(floor=floor, sun="o", folk=folk), [(0, 0)])


class Near(unittest.TestCase):
    def test_the_nearest(self):
        floor = hung((0, 0), (3, 3))
        self.assertEqual(behind_one(floor, ((2, 2), "near")), ((3, 3),))
        self.assertEqual(behind_one(floor, ((1, 0), "near")), ((0, 0),))

    def test_by_rows_and_columns_together(self):
        self.assertEqual(behind_one(hung((1, 1), (0, 2)), ((0, 0), "near")), ((0, 2),))
        self.assertEqual(behind_one(hung((2, 2), (0, 3)), ((0, 0), "near")), ((0, 3),))
        self.assertEqual(behind_one(hung((0, 4), (1, 0)), ((0, 0), "near")), ((1, 0),))
        self.assertEqual(behind_one(hung((4, 0), (0, 1)), ((0, 0), "near")), ((0, 1),))
        self.assertEqual(behind_one(hung((0, 0), (4, 3)), ((4, 4), "near")), ((4, 3),))
        self.assertEqual(behind_one(hung((0, 4), (3, 0)), ((2, 2), "near")), ((3, 0),))

    def test_of_several_the_first(self):
        around = ((4, 2), (2, 4), (2, 0), (0, 2))
        self.assertEqual(behind_one(hung(*around), ((2, 2), "near")), ((0, 2),))
        self.assertEqual(behind_one(hung(*around[:3]), ((2, 2), "near")), ((2, 0),))
        self.assertEqual(behind_one(hung(*around[:2]), ((2, 2), "near")), ((2, 4),))
        self.assertEqual(behind_one(hung((1, 3), (2, 0), (0, 2)), ((2, 2), "near")), ((0, 2),))
        self.assertEqual(behind_one(hung((3, 1), (1, 3)), ((2, 2), "near")), ((1, 3),))

    def test_through_posts(self):
        floor = (1, 5, ((0, 1, 4),), ((0, 4),))
        self.assertEqual(behind_one(floor, ((0, 0), "near")), ((0, 4),))
        self.assertEqual(behind_one(floor, ((0, 0), "near"), sun="e"), ((0, 2),))


class First(unittest.TestCase):
    def test_the_first(self):
        self.assertEqual(behind_one(hung((3, 3), (0, 0)), ((2, 2), "first")), ((0, 0),))
        self.assertEqual(behind_one(hung((4, 0), (3, 4)), ((4, 4), "first")), ((3, 4),))
        self.assertEqual(behind_one(hung((2, 4), (2, 1)), ((2, 3), "first")), ((2, 1),))

    def test_the_first_where_nobody_sits(self):
        floor = hung((0, 0), (0, 1), (4, 4))
        self.assertEqual(
            behind_one(floor, ((0, 0), "stay"), ((2, 2), "first"), ((2, 3), "first")),
            ((0, 0), (0, 1), (4, 4)),
        )


class Stay(unittest.TestCase):
    def test_stays_in_the_sun(self):
        self.assertEqual(behind_one(hung((2, 3)), ((2, 2), "stay")), ((2, 2),))
        self.assertEqual(seated(hung((2, 3)), "on", (((2, 2), "stay"),), FAR), ((2, 2),))

    def test_no_cell_to_go_to(self):
        for rule in ("near", "first", "stay"):
            self.assertEqual(behind_one(hung(), ((2, 2), rule)), ((2, 2),))
            self.assertEqual(behind_one((1, 1, (), ()), ((0, 0), rule)), ((0, 0),))
            self.assertEqual(
                behind_one(hung((1, 1)), ((1, 1), "stay"), ((2, 2), rule)),
                ((1, 1), (2, 2)),
            )

    def test_in_the_shade_already(self):
        for rule in ("near", "first", "stay"):
            self.assertEqual(behind_one(hung((0, 0), (2, 2), (2, 3)), ((2, 2), rule)), ((2, 2),))


class Posts(unittest.TestCase):
    def test_nobody_moves_to_a_post(self):
        floor = (1, 4, ((0, 1, 1),), ((0, 1), (0, 3)))
        for rule in ("near", "first"):
            self.assertEqual(behind_one(floor, ((0, 0), rule)), ((0, 3),))

    def test_shade_on_a_post_alone(self):
        floor = (1, 4, ((0, 1, 1),), ((0, 1),))
        for rule in ("near", "first"):
            self.assertEqual(behind_one(floor, ((0, 0), rule)), ((0, 0),))

    def test_the_shade_of_one_post_on_another(self):
        floor = (1, 4, ((0, 0, 3), (0, 1, 1)), ())
        for rule in ("near", "first"):
            self.assertEqual(behind_one(floor, ((0, 3), rule), sun="w"), ((0, 3),))
        self.assertEqual(behind_one((2, 4, ((0, 0, 3), (0, 1, 1)), ()), ((1, 1), "near"), sun="e"), ((0, 2),))

    def test_four_posts_and_four_folk(self):
        floor = (5, 5, ((0, 0, 1), (0, 2, 1), (2, 0, 1), (2, 2, 1)), ())
        folk = (((4, 4), "first"), ((4, 0), "near"), ((1, 0), "stay"), ((4, 1), "near"))
        self.assertEqual(seated(floor, "s", folk, 1), ((1, 2), (3, 0), (1, 0), (3, 2)))
        self.assertEqual(seated(floor, "e", folk, 1), ((0, 1), (2, 1), (1, 0), (2, 3)))


class InTurn(unittest.TestCase):
    def test_the_one_with_the_lower_number_first(self):
        floor = hung((0, 1))
        self.assertEqual(behind_one(floor, ((0, 0), "near"), ((0, 2), "near")), ((0, 1), (0, 2)))
        self.assertEqual(behind_one(floor, ((0, 2), "near"), ((0, 0), "near")), ((0, 1), (0, 0)))

    def test_who_moved_sits_where_it_moved_to(self):
        floor = hung((0, 1), (0, 4))
        self.assertEqual(behind_one(floor, ((0, 0), "near"), ((0, 2), "near")), ((0, 1), (0, 4)))
        self.assertEqual(behind_one(floor, ((0, 0), "first"), ((0, 2), "first")), ((0, 1), (0, 4)))

    def test_one_of_a_higher_number_sits_there_too(self):
        floor = hung((0, 1), (0, 4))
        for rule in ("near", "first"):
            self.assertEqual(behind_one(floor, ((0, 0), rule), ((0, 1), rule)), ((0, 4), (0, 1)))

    def test_four_move_in_turn(self):
        floor = hung((0, 0), (1, 1), (3, 3), (4, 4))
        folk = (((2, 2), "near"), ((2, 1), "near"), ((0, 4), "first"), ((4, 3), "first"))
        self.assertEqual(seated(floor, "o", folk, 1), ((1, 1), (0, 0), (3, 3), (4, 4)))

    def test_more_folk_than_shade(self):
        floor = hung((2, 2), (2, 3))
        folk = (((0, 0), "near"), ((2, 4), "stay"), ((1, 3), "first"), ((3, 3), "near"))
        self.assertEqual(seated(floor, "o", folk, 1), ((2, 2), (2, 4), (2, 3), (3, 3)))


# One who waits where a shadow of the last turn lies, then goes to and fro.
TO_AND_FRO = (1, 4, ((0, 1, 2),), ())
WAITING = (((0, 3), "near"),)
# Two who change places: all comes again behind two turns of the sun.
CHANGING = (3, 2, (), ((2, 1), (1, 0), (0, 1)))
CHANGERS = (((2, 0), "near"), ((1, 1), "first"))
CHANGES = [
    ((2, 0), (1, 1)), ((2, 0), (0, 0)), ((1, 1), (0, 0)),
    ((1, 1), (2, 0)), ((0, 0), (2, 0)), ((0, 0), (1, 1)),
]
# One who sits in the sun at first, and comes to a cell that is shaded at every other beat.
HALF = (1, 3, ((0, 0, 1),), ())
LATE = (((0, 2), "near"),)


class Seated(unittest.TestCase):
    def test_behind_no_beat(self):
        folk = (((4, 4), "near"), ((0, 0), "first"), ((2, 2), "stay"))
        self.assertEqual(seated(hung((1, 1), (1, 2)), "o", folk, 0), ((4, 4), (0, 0), (2, 2)))

    def test_beat_by_beat(self):
        told = [seated(TO_AND_FRO, "ew", WAITING, many)[0] for many in range(8)]
        self.assertEqual(told, [(0, 3), (0, 3), (0, 0), (0, 2), (0, 0), (0, 2), (0, 0), (0, 2)])

    def test_two_in_turn_of_the_sun(self):
        for many in range(25):
            self.assertEqual(seated(CHANGING, "wns", CHANGERS, many), CHANGES[many % 6])

    def test_far_beats(self):
        # 10 ** 18 is even, and leaves 4 over by six.
        self.assertEqual(seated(TO_AND_FRO, "ew", WAITING, FAR), ((0, 0),))
        self.assertEqual(seated(TO_AND_FRO, "ew", WAITING, FAR - 1), ((0, 2),))
        self.assertEqual(seated(CHANGING, "wns", CHANGERS, FAR), CHANGES[4])
        self.assertEqual(seated(CHANGING, "wns", CHANGERS, FAR - 1), CHANGES[3])
        self.assertEqual(seated(CHANGING, "wns", CHANGERS, FAR - 4), CHANGES[0])

    def test_no_folk(self):
        for many in (0, 1, FAR):
            self.assertEqual(seated(hung((1, 1)), "on", (), many), ())

    def test_asked_again_the_same(self):
        for _ in range(3):
            self.assertEqual(seated(CHANGING, "wns", CHANGERS, 10), CHANGES[4])


class Course(unittest.TestCase):
    def test_all_comes_again_from_the_first_beat_on(self):
        self.assertEqual(
            course(TO_AND_FRO, "ew", (((0, 0), "near"),)),
            (0, 2, [((0, 0),), ((0, 2),)]),
        )

    def test_all_comes_again_later(self):
        self.assertEqual(
            course(TO_AND_FRO, "ew", WAITING),
            (2, 2, [((0, 3),), ((0, 3),), ((0, 0),), ((0, 2),)]),
        )
        self.assertEqual(
            course(HALF, "oe", LATE),
            (2, 2, [((0, 2),), ((0, 2),), ((0, 1),), ((0, 1),)]),
        )

    def test_a_turn_of_several_of_the_sun(self):
        self.assertEqual(course(CHANGING, "wns", CHANGERS), (0, 6, CHANGES))

    def test_from_within_a_turn_of_the_sun(self):
        self.assertEqual(
            course((1, 2, (), ((0, 0),)), "ee", (((0, 0), "near"),)),
            (1, 2, [((0, 0),), ((0, 1),), ((0, 1),)]),
        )

    def test_places_count_whatever_their_signs(self):
        one = (((0, 0), "stay"),)
        for many in range(1, 7):
            self.assertEqual(course((1, 1, (), ()), "o" * many, one), (0, many, [((0, 0),)] * many))
        self.assertEqual(course((1, 1, (), ()), "nsns", one), (0, 4, [((0, 0),)] * 4))

    def test_no_folk(self):
        self.assertEqual(course((1, 1, (), ()), "o", ()), (0, 1, [()]))
        self.assertEqual(course(hung((1, 1)), "nesw", ()), (0, 4, [(), (), (), ()]))

    def test_a_long_way(self):
        floor = (5, 5, ((1, 1, 3), (3, 3, 2), (4, 1, 4), (0, 4, 1)), ((2, 4), (0, 4), (3, 2)))
        folk = (((0, 0), "near"), ((4, 3), "near"), ((2, 4), "near"), ((1, 0), "near"))
        start, turn, seats = course(floor, "nwswes", folk)
        self.assertEqual((start, turn, len(seats)), (41, 6, 47))
        for many, at in enumerate(seats):
            self.assertEqual(seated(floor, "nwswes", folk, many), at)
        for more in (1, 2, 10 ** 12):
            for many in range(start, start + turn):
                self.assertEqual(seated(floor, "nwswes", folk, many + more * turn), seats[many])

    def test_what_is_told_may_be_changed(self):
        seats = course(CHANGING, "wns", CHANGERS)[2]
        seats.clear()
        self.assertEqual(course(CHANGING, "wns", CHANGERS), (0, 6, CHANGES))
        self.assertEqual(CHANGERS, (((2, 0), "near"), ((1, 1), "first")))


class Restless(unittest.TestCase):
    def test_who_goes_to_and_fro(self):
        self.assertEqual(restless(TO_AND_FRO, "ew", WAITING), [0])
        self.assertEqual(restless(CHANGING, "wns", CHANGERS), [0, 1])

    def test_who_moves_at_first_alone(self):
        self.assertEqual(restless(HALF, "oe", LATE), [])
        self.assertEqual(restless(hung((1, 1)), "o", (((0, 0), "near"), ((3, 3), "first"))), [])

    def test_those_alone_who_move(self):
        folk = (((0, 3), "stay"), ((0, 0), "near"))
        self.assertEqual(restless(TO_AND_FRO, "ew", folk), [1])
        self.assertEqual(restless(TO_AND_FRO, "ew", folk[::-1]), [0])
        self.assertEqual(restless(TO_AND_FRO, "ew", folk[:1]), [])
        floor = (5, 5, ((0, 1, 1), (2, 1, 1), (4, 1, 1)), ())
        folk = (((0, 0), "near"), ((1, 1), "stay"), ((2, 0), "near"), ((4, 2), "near"))
        self.assertEqual(restless(floor, "we", folk), [0, 2, 3])

    def test_no_folk(self):
        self.assertEqual(restless(TO_AND_FRO, "ew", ()), [])

    def test_what_is_told_may_be_changed(self):
        restless(CHANGING, "wns", CHANGERS).append(7)
        self.assertEqual(restless(CHANGING, "wns", CHANGERS), [0, 1])


class Scorched(unittest.TestCase):
    def test_nobody(self):
        self.assertEqual(scorched(CHANGING, "wns", CHANGERS), [(0, 0), (0, 0)])
        self.assertEqual(scorched(TO_AND_FRO, "ew", WAITING), [(0, 0)])

    def test_at_first_and_later(self):
        self.assertEqual(scorched(HALF, "oe", LATE), [(1, 1)])
        self.assertEqual(scorched(HALF, "ooe", LATE), [(2, 2)])
        self.assertEqual(scorched(HALF, "eo", LATE), [(0, 1)])
        self.assertEqual(scorched(HALF, "e", LATE), [(0, 0)])

    def test_the_seats_behind_a_beat_count(self):
        # Who moves within a beat does not sit in the sun behind it.
        self.assertEqual(scorched((1, 2, (), ((0, 0),)), "ee", (((0, 0), "near"),)), [(0, 0)])
        self.assertEqual(scorched((1, 2, (), ((0, 0),)), "ee", (((0, 0), "stay"),)), [(0, 2)])

    def test_for_each_one(self):
        folk = (((0, 0), "near"), ((0, 3), "stay"))
        self.assertEqual(scorched(TO_AND_FRO, "ew", folk), [(0, 0), (0, 1)])
        self.assertEqual(scorched(TO_AND_FRO, "ew", folk[::-1]), [(0, 1), (0, 0)])

    def test_the_first_beats_are_those_ahead_of_the_turn(self):
        self.assertEqual(course(HALF, "oee", LATE)[:2], (2, 3))
        self.assertEqual(scorched(HALF, "oee", LATE), [(1, 1)])
        self.assertEqual(course(HALF, "eoo", LATE)[:2], (1, 3))
        self.assertEqual(scorched(HALF, "eoo", LATE), [(0, 2)])
        folk = (((0, 3), "near"), ((0, 2), "stay"))
        self.assertEqual(course(TO_AND_FRO, "ew", folk)[:2], (1, 2))
        self.assertEqual(scorched(TO_AND_FRO, "ew", folk), [(0, 0), (0, 1)])

    def test_all_beats_of_a_turn_of_several_of_the_sun(self):
        folk = CHANGERS + (((2, 1), "stay"),)
        self.assertEqual(course(CHANGING, "wns", folk)[:2], (0, 6))
        self.assertEqual(scorched(CHANGING, "wns", folk), [(0, 0), (0, 0), (0, 6)])

    def test_no_folk(self):
        self.assertEqual(scorched(TO_AND_FRO, "ew", ()), [])

    def test_what_is_told_may_be_changed(self):
        scorched(HALF, "oe", LATE).clear()
        self.assertEqual(scorched(HALF, "oe", LATE), [(1, 1)])


if __name__ == "__main__":
    unittest.main()

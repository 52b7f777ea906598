"""Promises 7 to 9: suns that fit, rules that part, awnings that help, and papers."""

import itertools
import unittest

from shadeseats import telling
from shadeseats.errors import BadCount, BadPaper, BadRule, BadTold, InSun
from shadeseats.telling import awnings, paper, parting, shows, suns

# A post that shades two cells to the right by "e", one to the left by "w", and none here by other signs.
ROW = (1, 4, ((0, 1, 2),), ())
AT_LEFT = (((0, 0), "near"),)
# By a sun overhead just these two cells are in the shade.
TWO = (1, 5, (), ((0, 0), (0, 3)))


def bare(rows, columns, *hung):
    return (rows, columns, (), hung)


def staying(*cells):
    return tuple((cell, "stay") for cell in cells)


class Interface(unittest.TestCase):
    def test_defined_here(self):
        for name in ("suns", "parting", "awnings", "paper", "shows"):
            self.assertEqual(getattr(telling, name).__module__, "shadeseats.telling")
            self.assertEqual(getattr(telling, name).__name__, name)

    def test_arguments_by_name(self):
        self.assertEqual(suns(floor=ROW, folk=AT_LEFT, told=(((0, 2),),)), ["e"])
        self.assertEqual(parting(floor=TWO, sun="o", one="near", other="first"), (1, (0, 2)))
        self.assertEqual(awnings(floor=bare(1, 2), sun="o", folk=staying((0, 1)), most=1), ((0, 1),))
        self.assertEqual(paper(floor=ROW, sun="w", folk=AT_LEFT), [(0, ((0, 0),))])
        self.assertIs(shows(floor=ROW, sun="w", folk=AT_LEFT, told=[(0, ((0, 0),))]), True)


class Suns(unittest.TestCase):
    def test_no_beats(self):
        self.assertEqual(suns(ROW, AT_LEFT, ()), [""])
        self.assertEqual(suns(ROW, (), ()), [""])

    def test_one_beat(self):
        self.assertEqual(suns(ROW, AT_LEFT, (((0, 2),),)), ["e"])
        self.assertEqual(suns(ROW, (((0, 2), "near"),), (((0, 0),),)), ["w"])

    def test_who_stays_where_it_is_told(self):
        self.assertEqual(suns(ROW, AT_LEFT, (((0, 0),),)), ["n", "o", "s", "w"])
        self.assertEqual(suns(ROW, (((0, 3), "near"),), (((0, 3),),)), ["e", "n", "o", "s"])
        self.assertEqual(suns(ROW, staying((0, 0)), (((0, 0),),)), ["e", "n", "o", "s", "w"])

    def test_several_beats_rising(self):
        self.assertEqual(suns(ROW, AT_LEFT, (((0, 0),), ((0, 2),))), ["ne", "oe", "se", "we"])
        self.assertEqual(suns(ROW, AT_LEFT, (((0, 2),), ((0, 2),))), ["ee", "en", "eo", "es"])
        self.assertEqual(suns(ROW, AT_LEFT, (((0, 2),), ((0, 0),), ((0, 2),))), ["ewe"])
        self.assertEqual(
            suns(ROW, AT_LEFT, (((0, 0),), ((0, 0),))),
            [one + other for one in "nosw" for other in "nosw"],
        )

    def test_six_beats(self):
        there = ((0, 2),)
        here = ((0, 0),)
        self.assertEqual(suns(ROW, AT_LEFT, (there, here) * 3), ["ewewew"])
        self.assertEqual(
            suns(ROW, AT_LEFT, (here, there) * 3),
            ["newewe", "oewewe", "sewewe", "wewewe"],
        )
        self.assertEqual(len(suns(ROW, AT_LEFT, (here,) * 6)), 4 ** 6)

    def test_none_fits(self):
        self.assertEqual(suns(ROW, AT_LEFT, (((0, 3),),)), [])
        self.assertEqual(suns(ROW, AT_LEFT, (((0, 2),), ((0, 3),))), [])

    def test_none_fits_from_then_on(self):
        # One who sat at (0, 3) could have stayed there, but never comes there.
        self.assertEqual(suns(ROW, AT_LEFT, (((0, 3),), ((0, 3),))), [])
        self.assertEqual(suns(ROW, AT_LEFT, (((0, 3),), ((0, 0),))), [])

    def test_by_each_rule(self):
        self.assertEqual(suns(TWO, (((0, 4), "near"),), (((0, 3),),)), ["o"])
        self.assertEqual(suns(TWO, (((0, 4), "first"),), (((0, 0),),)), ["o"])
        self.assertEqual(suns(TWO, (((0, 4), "first"),), (((0, 2),),)), ["w"])
        self.assertEqual(suns(TWO, (((0, 4), "stay"),), (((0, 3),),)), [])

    def test_folk_move_in_turn(self):
        folk = (((0, 0), "near"), ((0, 1), "near"), ((0, 2), "first"), ((0, 3), "stay"))
        floor = (2, 4, (), ((1, 1), (1, 2)))
        told = (((1, 1), (1, 2), (0, 2), (0, 3)),)
        self.assertEqual(suns(floor, folk, told), ["o"])
        self.assertEqual(suns(floor, folk, (((1, 2), (1, 1), (0, 2), (0, 3)),)), [])
        self.assertEqual(suns(floor, folk, (((0, 2), (0, 1), (0, 2), (0, 3)),)), [])

    def test_no_folk(self):
        for many in range(7):
            told = suns(ROW, (), ((),) * many)
            self.assertEqual(told, ["".join(signs) for signs in itertools.product("enosw", repeat=many)])

    def test_a_cell_that_has_a_post_or_is_told_twice_fits_no_sun(self):
        self.assertEqual(suns(ROW, AT_LEFT, (((0, 1),),)), [])
        folk = staying((0, 0), (0, 2))
        self.assertEqual(suns(ROW, folk, (((0, 0), (0, 0)),)), [])
        self.assertEqual(suns(ROW, folk, (((0, 0), (0, 0)), ((0, 0), (0, 2)))), [])

    def test_what_is_told_may_be_changed(self):
        told = (((0, 0),), ((0, 2),))
        suns(ROW, AT_LEFT, told).clear()
        self.assertEqual(suns(ROW, AT_LEFT, told), ["ne", "oe", "se", "we"])
        self.assertEqual(told, (((0, 0),), ((0, 2),)))

    def refused(self, folk, told, number):
        with self.assertRaises(BadTold) as held:
            suns(ROW, folk, told)
        self.assertEqual(held.exception.number, number, told)

    def test_a_cell_beyond_the_floor_is_refused(self):
        for cell in ((0, 4), (1, 0), (-1, 0), (0, -1), (9, 9)):
            self.refused(AT_LEFT, ((cell,),), 0)
            self.refused(AT_LEFT, (((0, 0),), ((0, 0),), (cell,)), 2)

    def test_a_seventh_beat_is_refused(self):
        self.refused(AT_LEFT, (((0, 0),),) * 7, 6)
        self.refused(AT_LEFT, (((0, 0),),) * 9, 6)
        self.refused(AT_LEFT, (((0, 0),),) * 6 + (None,), 6)
        self.refused((), ((),) * 7, 6)
        self.refused(AT_LEFT, (((0, 0),),) * 5 + (None, ((0, 0),)), 5)

    def test_no_cell_for_each_is_refused(self):
        self.refused(AT_LEFT, ((),), 0)
        self.refused(AT_LEFT, (((0, 0), (0, 0)),), 0)
        self.refused((), (((0, 0),),), 0)
        self.refused(AT_LEFT, (((0, 0),), (0, 0)), 1)

    def test_refused_though_none_fits_ahead(self):
        self.refused(AT_LEFT, (((0, 3),), ((0, 3),), None), 2)


class Parting(unittest.TestCase):
    def test_a_rule_leads_as_itself(self):
        for rule in ("near", "first", "stay"):
            self.assertIsNone(parting(TWO, "neswo", rule, rule))

    def test_the_nearest_and_the_first(self):
        self.assertEqual(parting(TWO, "o", "near", "first"), (1, (0, 2)))
        self.assertEqual(parting(TWO, "o", "first", "near"), (1, (0, 2)))

    def test_who_stays(self):
        self.assertEqual(parting(TWO, "o", "near", "stay"), (1, (0, 1)))
        self.assertEqual(parting(TWO, "o", "stay", "first"), (1, (0, 1)))
        self.assertEqual(parting(bare(2, 2, (0, 0), (0, 1)), "o", "stay", "near"), (1, (1, 0)))

    def test_lead_alike(self):
        for rules in itertools.permutations(("near", "first", "stay"), 2):
            self.assertIsNone(parting(bare(5, 5), "neswon", *rules))
            self.assertIsNone(parting(bare(1, 1, (0, 0)), "o", *rules))
        self.assertIsNone(parting(bare(1, 5, (0, 3)), "oew", "near", "first"))
        self.assertIsNone(parting(ROW, "ew", "near", "first"))

    def test_the_first_beats_without_shade(self):
        self.assertEqual(parting(TWO, "no", "near", "first"), (2, (0, 2)))
        self.assertEqual(parting(TWO, "nsnsno", "near", "first"), (6, (0, 2)))

    def test_fewest_beats_go_ahead_of_cells(self):
        floor = bare(2, 4, (0, 0), (1, 3))
        # By "w" one comes to (1, 2) from everywhere, and by "o" both rules part there.
        self.assertEqual(parting(floor, "wo", "near", "first"), (2, (0, 0)))
        # By "o" both rules part from (0, 3) on, one beat ahead of all that comes by "w".
        self.assertEqual(parting(floor, "ow", "near", "first"), (1, (0, 3)))

    def test_cells_with_a_post_do_not_count(self):
        self.assertEqual(parting((1, 5, ((0, 2, 1),), ((0, 0), (0, 3))), "o", "near", "first"), (1, (0, 4)))
        full = (1, 4, tuple((0, column, 1) for column in range(4)), ((0, 0),))
        self.assertIsNone(parting(full, "eo", "near", "stay"))

    def test_one_sits_alone(self):
        # Two who sat there at once could not both come to the one cell in the shade.
        self.assertIsNone(parting(bare(1, 3, (0, 1)), "o", "near", "first"))

    def test_asked_again_the_same(self):
        for _ in range(3):
            self.assertEqual(parting(TWO, "no", "near", "first"), (2, (0, 2)))

    def test_rules_that_are_none(self):
        for rule in ("", "far", "Near", "near ", "nea", "ear", (), ("near",), [], ["near"], 0, 1, True, False, None):
            for rules in ((rule, "near"), ("near", rule), (rule, rule)):
                with self.assertRaises(BadRule):
                    parting(TWO, "o", *rules)


class Awnings(unittest.TestCase):
    def test_nobody_sits_in_the_sun_already(self):
        for most in range(4):
            self.assertEqual(awnings(ROW, "ew", AT_LEFT, most), ())
            self.assertEqual(awnings(bare(1, 1), "n", (), most), ())
            self.assertEqual(awnings(bare(1, 1, (0, 0)), "o", staying((0, 0)), most), ())

    def test_one_helps(self):
        for most in (1, 2, 3):
            self.assertEqual(awnings(bare(1, 2), "o", staying((0, 1)), most), ((0, 1),))
            self.assertEqual(awnings(bare(1, 3), "w", staying((0, 1)), most), ((0, 2),))

    def test_of_several_the_first(self):
        self.assertEqual(awnings(bare(3, 3), "o", (((1, 1), "near"),), 3), ((0, 0),))
        self.assertEqual(awnings(bare(3, 3), "s", (((1, 1), "first"),), 3), ((0, 0),))
        self.assertEqual(awnings(bare(3, 3), "n", (((1, 1), "near"),), 3), ((1, 0),))
        self.assertEqual(awnings(bare(3, 3), "o", (((0, 0), "near"), ((2, 2), "near")), 3), ((0, 0), (0, 1)))

    def test_two_and_three_rising(self):
        self.assertEqual(awnings(bare(3, 3), "ew", staying((1, 1)), 3), ((1, 0), (1, 2)))
        self.assertEqual(awnings(bare(3, 3), "we", staying((1, 1)), 2), ((1, 0), (1, 2)))
        folk = staying((2, 2), (0, 0), (1, 1))
        self.assertEqual(awnings(bare(3, 3), "o", folk, 3), ((0, 0), (1, 1), (2, 2)))

    def test_fewer_go_ahead_of_first(self):
        # (0, 0) and more would do, too, but (1, 1) does alone.
        self.assertEqual(awnings(bare(2, 2), "o", staying((1, 1)), 3), ((1, 1),))

    def test_no_more_than_most(self):
        folk = staying((2, 2), (0, 0), (1, 1))
        for most in (0, 1, 2):
            self.assertIsNone(awnings(bare(3, 3), "o", folk, most))
        self.assertIsNone(awnings(bare(1, 2), "o", staying((0, 1)), 0))

    def test_none_do(self):
        self.assertIsNone(awnings(bare(1, 1), "n", staying((0, 0)), 3))
        self.assertIsNone(awnings(bare(3, 3), "o", staying((0, 0), (1, 1), (2, 2), (0, 2)), 3))
        self.assertIsNone(awnings(bare(1, 3), "nosewn", (((0, 0), "near"),), 3))

    def test_besides_those_that_hang(self):
        folk = (((0, 0), "near"), ((2, 2), "near"))
        self.assertEqual(awnings(bare(3, 3, (0, 0)), "o", folk, 3), ((0, 1),))
        self.assertEqual(awnings(bare(3, 3, (1, 1)), "o", folk, 1), ((0, 0),))

    def test_more_than_eight_in_all(self):
        hung = [(row, column) for row in range(2) for column in range(4)]
        for cells in (((4, 4),), ((3, 1), (4, 4)), ((2, 2), (3, 1), (4, 4))):
            self.assertEqual(awnings(bare(5, 5, *hung), "o", staying(*cells), 3), cells)

    def test_not_over_a_cell_twice(self):
        # By "e" only an awning over (0, 0) would shade (0, 1), by "o" one over (0, 1).
        self.assertEqual(awnings(bare(1, 2, (0, 0)), "eo", staying((0, 1)), 1), ((0, 1),))
        self.assertIsNone(awnings(bare(1, 1, (0, 0)), "n", staying((0, 0)), 3))
        # Each cell has its awning: none is left to hang one over.
        self.assertIsNone(awnings(bare(1, 2, (0, 0), (0, 1)), "n", staying((0, 0)), 3))

    def test_behind_every_beat(self):
        # In the shade at the first beats alone.
        self.assertEqual(awnings((1, 3, ((0, 0, 2),), ()), "eeo", staying((0, 2)), 3), ((0, 2),))
        self.assertEqual(awnings((1, 3, ((0, 0, 2),), ()), "oee", staying((0, 2)), 3), ((0, 2),))

    def test_counts_that_are_none(self):
        for most in (-1, 4, 10 ** 18, True, False, None, "1", "", (), (1,), [], [1]):
            with self.assertRaises(BadCount):
                awnings(bare(1, 2), "o", staying((0, 1)), most)

    def test_refused_though_nobody_sits_in_the_sun(self):
        with self.assertRaises(BadCount):
            awnings(ROW, "ew", AT_LEFT, 4)

    def test_asked_again_the_same(self):
        for _ in range(3):
            self.assertEqual(awnings(bare(3, 3), "ew", staying((1, 1)), 3), ((1, 0), (1, 2)))


# Two who change places: all comes again behind two turns of the sun.
CHANGING = (3, 2, (), ((2, 1), (1, 0), (0, 1)))
CHANGERS = (((2, 0), "near"), ((1, 1), "first"))
CHANGES = [
    (0, ((1, 1), (2, 0))), (0, ((2, 0), (1, 1))),
    (1, ((0, 0), (2, 0))), (1, ((2, 0), (0, 0))),
    (2, ((0, 0), (1, 1))), (2, ((1, 1), (0, 0))),
]


class Paper(unittest.TestCase):
    def test_all_that_comes_to_be_rising(self):
        self.assertEqual(paper(ROW, "ew", AT_LEFT), [(0, ((0, 0),)), (1, ((0, 2),))])
        self.assertEqual(
            paper(ROW, "ew", (((0, 3), "near"),)),
            [(0, ((0, 0),)), (0, ((0, 3),)), (1, ((0, 2),)), (1, ((0, 3),))],
        )
        self.assertEqual(paper(CHANGING, "wns", CHANGERS), CHANGES)

    def test_seats_ahead_of_the_beat(self):
        # At first one sits in the sun, but behind no beat.
        self.assertEqual(paper(ROW, "e", AT_LEFT), [(0, ((0, 0),)), (0, ((0, 2),))])

    def test_places_count_whatever_their_signs(self):
        self.assertEqual(
            paper(ROW, "eee", AT_LEFT),
            [(0, ((0, 0),)), (0, ((0, 2),)), (1, ((0, 2),)), (2, ((0, 2),))],
        )

    def test_no_folk(self):
        self.assertEqual(paper(ROW, "n", ()), [(0, ())])
        self.assertEqual(paper(bare(1, 1), "neswon", ()), [(place, ()) for place in range(6)])

    def test_four_folk(self):
        folk = (((0, 3), "near"), ((0, 2), "first"), ((0, 1), "stay"), ((0, 0), "near"))
        seats = tuple(cell for cell, rule in folk)
        hung = bare(1, 4, (0, 0), (0, 1), (0, 2), (0, 3))
        self.assertEqual(paper(hung, "oo", folk), [(0, seats), (1, seats)])

    def refused(self, floor, sun, folk, beat):
        with self.assertRaises(InSun) as held:
            paper(floor, sun, folk)
        self.assertEqual(held.exception.beat, beat)

    def test_somebody_sits_in_the_sun(self):
        late = (((0, 2), "near"),)
        floor = (1, 3, ((0, 0, 1),), ())
        self.refused(floor, "oe", late, 0)
        self.refused(floor, "eo", late, 1)
        self.refused(floor, "eeo", late, 2)
        self.refused(floor, "eeeeeo", late, 5)
        self.refused(floor, "eeoooo", late, 2)

    def test_one_of_several(self):
        self.refused(ROW, "ew", AT_LEFT + staying((0, 3)), 1)
        self.refused(ROW, "we", staying((0, 3)) + AT_LEFT, 0)

    def test_more_folk_than_shade(self):
        self.refused(ROW, "ew", (((0, 2), "near"), ((0, 3), "near")), 1)

    def test_what_is_told_may_be_changed(self):
        paper(CHANGING, "wns", CHANGERS).clear()
        self.assertEqual(paper(CHANGING, "wns", CHANGERS), CHANGES)
        for _ in range(2):
            self.refused(ROW, "n", AT_LEFT, 0)


class Shows(unittest.TestCase):
    def test_a_paper_that_was_told(self):
        for floor, sun, folk in ((ROW, "ew", AT_LEFT), (CHANGING, "wns", CHANGERS), (ROW, "neswo", ())):
            self.assertIs(shows(floor, sun, folk, paper(floor, sun, folk)), True)

    def test_each_pair_is_needed(self):
        for number in range(len(CHANGES)):
            rest = CHANGES[:number] + CHANGES[number + 1:]
            self.assertIs(shows(CHANGING, "wns", CHANGERS, rest), False)

    def test_no_row(self):
        self.assertIs(shows(ROW, "ew", AT_LEFT, []), False)
        self.assertIs(shows(ROW, "n", (), []), False)

    def test_in_any_turn_and_told_twice(self):
        self.assertIs(shows(CHANGING, "wns", CHANGERS, CHANGES[::-1]), True)
        self.assertIs(shows(CHANGING, "wns", CHANGERS, CHANGES[3:] + CHANGES), True)

    def test_at_first(self):
        # All that it tells holds for ever, but not of these folk.
        told = paper(ROW, "ew", AT_LEFT)
        self.assertIs(shows(ROW, "ew", (((0, 3), "near"),), told), False)
        # It has their seats, but ahead of another beat.
        self.assertIs(shows(ROW, "we", (((0, 2), "near"),), [(1, ((0, 2),))]), False)
        self.assertIs(shows(ROW, "ww", AT_LEFT, [(0, ((0, 0),)), (1, ((0, 0),))]), True)
        self.assertIs(shows(ROW, "ww", AT_LEFT, [(1, ((0, 0),))]), False)

    def test_more_than_comes_to_be(self):
        told = [(0, ((0, 0),)), (1, ((0, 2),))]
        self.assertIs(shows(ROW, "ew", AT_LEFT, told + [(1, ((0, 3),))]), True)
        self.assertIs(shows(ROW, "ew", AT_LEFT, told + [(0, ((0, 3),)), (1, ((0, 3),))]), True)

    def test_more_that_leads_to_what_is_not_in_it(self):
        told = [(0, ((0, 0),)), (1, ((0, 2),))]
        self.assertIs(shows(ROW, "ew", AT_LEFT, told + [(0, ((0, 3),))]), False)

    def test_more_that_leads_into_the_sun(self):
        floor = bare(1, 3, (0, 0), (0, 1))
        folk = (((0, 0), "stay"),)
        self.assertIs(shows(floor, "o", folk, [(0, ((0, 0),))]), True)
        self.assertIs(shows(floor, "o", folk, [(0, ((0, 0),)), (0, ((0, 1),))]), True)
        self.assertIs(shows(floor, "o", folk, [(0, ((0, 0),)), (0, ((0, 2),))]), False)

    def test_somebody_sits_in_the_sun(self):
        self.assertIs(shows(ROW, "o", AT_LEFT, [(0, ((0, 0),))]), False)
        self.assertIs(shows(ROW, "n", staying((0, 0), (0, 2)), [(0, ((0, 0), (0, 2)))]), False)

    def test_who_sits_where_a_post_stands(self):
        # By "e" the post at (0, 1) is in the shade of the other one, by "w" it is in the sun.
        floor = (1, 4, ((0, 0, 3), (0, 1, 2)), ())
        for rule in ("near", "first", "stay"):
            folk = (((0, 2), rule),)
            told = [(0, ((0, 2),)), (0, ((0, 1),))]
            self.assertIs(shows(floor, "e", folk, told), True, rule)
            self.assertIs(shows(floor, "e", folk, told[:1] + [(0, ((0, 0),))]), rule != "stay", rule)
        # One who is in the shade there does not move away from the post.
        folk = (((0, 2), "near"),)
        self.assertIs(shows(floor, "ee", folk, [(0, ((0, 2),)), (1, ((0, 2),)), (0, ((0, 1),))]), False)
        told = [(0, ((0, 2),)), (1, ((0, 2),)), (0, ((0, 1),)), (1, ((0, 1),))]
        self.assertIs(shows(floor, "ee", folk, told), True)

    def test_two_who_sit_at_one_cell(self):
        floor = bare(1, 4, (0, 0), (0, 1), (0, 2))
        folk = (((0, 0), "near"), ((0, 1), "near"))
        told = [(0, ((0, 0), (0, 1)))]
        self.assertIs(shows(floor, "o", folk, told + [(0, ((0, 2), (0, 2)))]), True)
        # In the sun, both move in turn.
        self.assertIs(shows(floor, "o", folk, told + [(0, ((0, 3), (0, 3)))]), False)
        self.assertIs(shows(floor, "o", folk, told + [(0, ((0, 3), (0, 3))), (0, ((0, 2), (0, 1)))]), True)

    def test_a_sun_of_one_sign_goes_on_with_itself(self):
        self.assertIs(shows(ROW, "w", AT_LEFT, [(0, ((0, 0),))]), True)

    def test_no_folk(self):
        self.assertIs(shows(ROW, "n", (), [(0, ())]), True)
        self.assertIs(shows(ROW, "ns", (), [(0, ())]), False)
        self.assertIs(shows(ROW, "ns", (), [(1, ()), (0, ())]), True)

    def test_the_paper_is_not_changed_and_not_kept(self):
        told = paper(CHANGING, "wns", CHANGERS)
        self.assertIs(shows(CHANGING, "wns", CHANGERS, told), True)
        self.assertEqual(told, CHANGES)
        del told[2]
        self.assertIs(shows(CHANGING, "wns", CHANGERS, told), False)
        self.assertIs(shows(CHANGING, "wns", CHANGERS, CHANGES), True)

    def refused(self, told, number, sun="ew", folk=AT_LEFT):
        with self.assertRaises(BadPaper) as held:
            shows(ROW, sun, folk, told)
        self.assertEqual(held.exception.number, number, told)

    def test_a_beat_that_the_sun_does_not_have(self):
        for beat in (-1, 2, 3, True, False, None, "0", (), [0]):
            self.refused([(0, ((0, 0),)), (beat, ((0, 0),))], 1)
        self.refused([(1, ((0, 0),))], 0, sun="e")
        self.refused([(6, ((0, 0),))], 0, sun="nesown")

    def test_a_cell_beyond_the_floor(self):
        for cell in ((0, 4), (1, 0), (-1, 0), (0, -1), (True, 0), (0, 0, 0), [0, 0]):
            self.refused([(0, (cell,))], 0)
            self.refused([(0, ((0, 0),)), (1, ((0, 2),)), (0, (cell,))], 2)

    def test_no_cell_for_each(self):
        for seats in ((), ((0, 0), (0, 2)), (0, 0), [(0, 0)], None, 0, True, ""):
            self.refused([(0, seats)], 0)
        self.refused([(0, ()), (0, ((0, 0),))], 1, folk=())

    def test_refused_though_it_shows_nothing_ahead(self):
        self.refused([(1, ((0, 0),)), (0, ((0, 3),)), None], 2)


if __name__ == "__main__":
    unittest.main()

"""Promises 1 to 12: what is refused, and that what is handed in first is refused first."""

import copy
import unittest

from shadeseats.errors import BadCount, BadFloor, BadFolk, BadPaper, BadRule, BadSun, BadTold
from shadeseats.floors import parted, shade
from shadeseats.garden import Garden
from shadeseats.moving import course, restless, scorched, seated
from shadeseats.notes import written
from shadeseats.telling import awnings, paper, parting, shows, suns

FLOOR = (2, 3, ((0, 0, 1),), ((1, 1),))
FOLK = (((1, 0), "near"), ((0, 2), "stay"))
# One who sits in the sun behind no beat by "es".
COOL = FOLK[:1]
SEATS = ((1, 0), (0, 2))


def opened(floor, sun):
    return Garden(floor, sun).stands()


# Each call with things that can be, in the order in which they are handed in.
CALLS = (
    (shade, (FLOOR, "es", 0), ("floor", "sun", "count")),
    (parted, (FLOOR, (1, 1, (), ()), "es"), ("floor", "floor", "sun")),
    (seated, (FLOOR, "es", FOLK, 1), ("floor", "sun", "folk", "count")),
    (course, (FLOOR, "es", FOLK), ("floor", "sun", "folk")),
    (restless, (FLOOR, "es", FOLK), ("floor", "sun", "folk")),
    (scorched, (FLOOR, "es", FOLK), ("floor", "sun", "folk")),
    (suns, (FLOOR, FOLK, (SEATS,)), ("floor", "folk", "told")),
    (parting, (FLOOR, "es", "near", "first"), ("floor", "sun", "rule", "rule")),
    (awnings, (FLOOR, "es", FOLK, 1), ("floor", "sun", "folk", "most")),
    (paper, (FLOOR, "es", COOL), ("floor", "sun", "folk")),
    (shows, (FLOOR, "es", FOLK, [(0, SEATS)]), ("floor", "sun", "folk", "paper")),
    (opened, (FLOOR, "es"), ("floor", "sun")),
    (written, (FLOOR, "es", FOLK), ("floor", "sun", "folk")),
)

# Things of the kinds that may be handed in wrongly.
NO_TUPLES = ([], [1, 2], "", "near", 0, 1, 3, -1, True, False, None)
NO_NUMBERS = ((), (1,), [], [1], "", "1", True, False, None)
NO_TEXTS = ((), ("n",), [], ["n"], 0, 1, True, False, None)

POSTS = ((0, 0, 1), (0, 1, 2), (1, 0, 3), (1, 1, 4))
HUNG = tuple((row, column) for row in range(2) for column in range(5))

# Each with the part and the number of the first thing that can't be.
WRONG_FLOORS = [
    *[(thing, 0, 0) for thing in NO_TUPLES + ((), (2,), (2, 3), (2, 3, ()), (2, 3, (), (), ()))],
    ([2, 3, (), ()], 0, 0),
    *[((rows, 3, (), ()), 0, 0) for rows in NO_NUMBERS + (0, -1, 6, 10 ** 18)],
    *[((2, columns, (), ()), 1, 0) for columns in NO_NUMBERS + (0, -1, 6, 10 ** 18)],
    # Posts.
    *[((2, 3, posts, ()), 2, 0) for posts in NO_TUPLES],
    ((2, 3, [(0, 0, 1)], ()), 2, 0),
    *[((2, 3, (thing,), ()), 2, 0) for thing in NO_TUPLES + ((), (0,), (0, 0), (0, 0, 1, 1), [0, 0, 1])],
    *[((2, 3, ((0, 0, 1), (thing, 1, 1)), ()), 2, 1) for thing in NO_NUMBERS + (-1, 2, 3)],
    *[((2, 3, ((0, 0, 1), (1, thing, 1)), ()), 2, 1) for thing in NO_NUMBERS + (-1, 3, 4)],
    *[((2, 3, ((0, 0, 1), (1, 1, thing)), ()), 2, 1) for thing in NO_NUMBERS + (-1, 0, 5)],
    ((2, 3, ((0, 0, 1), (0, 0, 1)), ()), 2, 1),
    ((2, 3, ((0, 0, 1), (0, 1, 1), (1, 0, 1), (0, 1, 4)), ()), 2, 3),
    ((2, 3, ((0, 0, 1), (1, 1, 1), (0, 0, 2), (1, 1, 2)), ()), 2, 2),
    ((2, 3, POSTS + ((1, 2, 1),), ()), 2, 4),
    ((2, 3, POSTS + ((0, 2, 1), (1, 2, 1)), ()), 2, 4),
    ((2, 3, POSTS + (None,), ()), 2, 4),
    ((2, 3, POSTS + ((0, 0, 1),), ()), 2, 4),
    ((2, 3, POSTS[:3] + ((1, 1, 5), (1, 2, 1)), ()), 2, 3),
    ((2, 3, POSTS[:1] + ((5, 5, 1),) + POSTS[1:], ()), 2, 1),
    ((1, 1, ((0, 1, 1),), ()), 2, 0),
    ((5, 5, ((5, 0, 1),), ()), 2, 0),
    # Awnings.
    *[((2, 3, (), hung), 3, 0) for hung in NO_TUPLES],
    ((2, 3, (), [(0, 0)]), 3, 0),
    *[((2, 3, (), (thing,)), 3, 0) for thing in NO_TUPLES + ((), (0,), (0, 0, 0), [0, 0])],
    *[((2, 3, (), ((0, 0), (thing, 1))), 3, 1) for thing in NO_NUMBERS + (-1, 2, 3)],
    *[((2, 3, (), ((0, 0), (1, thing))), 3, 1) for thing in NO_NUMBERS + (-1, 3, 4)],
    ((2, 3, (), ((0, 0), (0, 0))), 3, 1),
    ((2, 3, (), ((0, 0), (1, 1), (0, 1), (1, 1), (0, 0))), 3, 3),
    ((5, 5, (), HUNG[:9]), 3, 8),
    ((5, 5, (), HUNG), 3, 8),
    ((5, 5, (), HUNG[:8] + (None,)), 3, 8),
    ((5, 5, (), HUNG[:8] + HUNG[:1]), 3, 8),
    ((5, 5, (), HUNG[:7] + ((5, 5),) + HUNG[7:9]), 3, 7),
    ((5, 5, (), HUNG[:7] + HUNG[:1] + HUNG[7:9]), 3, 7),
    # Two wrong things at once.
    ((0, 0, (), ()), 0, 0),
    ((6, 3, None, None), 0, 0),
    ((2, 6, None, None), 1, 0),
    ((2, True, ((9, 9, 9),), ()), 1, 0),
    ((2, 3, None, None), 2, 0),
    ((2, 3, ((0, 0, 1), None), ((0, 0), (0, 0), (0, 0))), 2, 1),
    ((2, 3, POSTS + ((1, 2, 1),), (None,)), 2, 4),
]

WRONG_SUNS = [
    *[(thing, 0) for thing in NO_TEXTS],
    ("", 0),
    *[(sign, 0) for sign in ("x", "N", "O", "0", " ", "\n", "xn", "NESW", " n", "x" * 9)],
    *[("nes" + sign, 3) for sign in map(chr, range(32, 127)) if sign not in "neswo"],
    ("nx", 1),
    ("n ", 1),
    ("noE", 2),
    ("neswx", 4),
    ("neswox", 5),
    ("neswonn", 6),
    ("neswox" + "x", 5),
    ("neswonx", 6),
    ("neswonxx", 6),
    ("nexwxnes", 2),
]

# A post stands at (0, 0) of FLOOR.
FOUR = (((0, 1), "near"), ((0, 2), "first"), ((1, 0), "stay"), ((1, 1), "near"))
WRONG_FOLK = [
    *[(thing, 0) for thing in NO_TUPLES],
    (list(FOUR), 0),
    *[((thing,), 0) for thing in NO_TUPLES],
    (((0, 1), "near"), 0),
    (((),), 0),
    ((((0, 1),),), 0),
    ((((0, 1), "near", "near"),), 0),
    (([(0, 1), "near"],), 0),
    *[(FOUR[:1] + ((thing, "near"),), 1) for thing in NO_TUPLES + ((), (0,), (1, 1, 1), [1, 1])],
    *[(FOUR[:2] + (((thing, 1), "near"),), 2) for thing in NO_NUMBERS + (-1, 2, 3)],
    *[(FOUR[:2] + (((1, thing), "near"),), 2) for thing in NO_NUMBERS + (-1, 3, 4)],
    *[(FOUR[:3] + (((1, 1), rule),), 3) for rule in NO_TEXTS + ("", "Near", "far", "near ", "nea", "ear")],
    ((((0, 0), "near"),), 0),
    (FOUR[:2] + (((0, 0), "stay"),), 2),
    (FOUR[:1] + FOUR[:1], 1),
    (FOUR[:3] + (((0, 2), "stay"),), 3),
    (FOUR + (((1, 2), "near"),), 4),
    (FOUR + (None,), 4),
    (FOUR + FOUR, 4),
    (FOUR[:3] + (((1, 1), "far"), ((1, 2), "near")), 3),
    (FOUR[:1] + (((9, 9), "near"), None, ((0, 0), "far")), 1),
    ((((0, 1), "far"), ((0, 1), "near")), 0),
]

WRONG_COUNTS = NO_NUMBERS + (-1, -(10 ** 18), 10 ** 18 + 1, 10 ** 19)

WRONG_MOSTS = NO_NUMBERS + (-1, 4, 5, 10 ** 18)
WRONG_RULES = NO_TEXTS + ("", "Near", "far", "near ", " stay", "nea", "ear", "nearfirst")

# No seats of two folk on FLOOR.
WRONG_SEATS = [
    *NO_TUPLES,
    (), SEATS[:1], SEATS + SEATS[:1], SEATS[0], list(SEATS),
    *[(SEATS[0], thing) for thing in NO_TUPLES + ((), (0,), (0, 0, 0), [0, 0], (2, 0), (0, 3), (-1, 0), (0, -1))],
    *[((thing, 1), SEATS[1]) for thing in NO_NUMBERS],
    *[((1, thing), SEATS[1]) for thing in NO_NUMBERS],
]
WRONG_TOLD = [
    *[(thing, 0) for thing in NO_TUPLES],
    ([SEATS], 0),
    *[((seats,), 0) for seats in WRONG_SEATS],
    *[((SEATS, SEATS, seats, SEATS), 2) for seats in WRONG_SEATS],
    (SEATS, 0),
    ((SEATS,) * 7, 6),
    ((SEATS,) * 6 + (None,), 6),
    ((SEATS,) * 100, 6),
    ((SEATS, None, SEATS, ()), 1),
    ((SEATS,) * 5 + (None, SEATS, SEATS), 5),
]
# As a sun of two signs has beats 0 and 1.
WRONG_PAPERS = [
    *[(thing, 0) for thing in NO_TUPLES if not isinstance(thing, list)],
    (((0, SEATS),), 0),
    (SEATS, 0),
    *[([thing], 0) for thing in NO_TUPLES + ((), (0,), (0, SEATS, SEATS), [0, SEATS], SEATS)],
    *[([(0, seats)], 0) for seats in WRONG_SEATS],
    *[([(0, SEATS), (1, SEATS), (1, seats), (0, SEATS)], 2) for seats in WRONG_SEATS],
    *[([(0, SEATS), (beat, SEATS)], 1) for beat in NO_NUMBERS + (-1, 2, 3, 10 ** 18)],
    ([(0, SEATS), None, (2, SEATS)], 1),
    ([(2, None)], 0),
]

WRONG = {
    "floor": (BadFloor, (6, 3, (), ())),
    "sun": (BadSun, "x"),
    "folk": (BadFolk, None),
    "count": (BadCount, True),
    "told": (BadTold, None),
    "rule": (BadRule, "far"),
    "most": (BadCount, 4),
    "paper": (BadPaper, ()),
}


def calls_with(kind):
    """Each call, its things, and each place among them where such a thing is handed in."""
    return [
        (call, things, at)
        for call, things, kinds in CALLS
        for at in range(len(kinds)) if kinds[at] == kind
    ]


def put(things, at, thing):
    return things[:at] + (thing,) + things[at + 1:]


class Refusals(unittest.TestCase):
    def caught(self, error, call, things):
        """The error, and nothing that was handed in is changed by it."""
        ahead = copy.deepcopy(things)
        with self.assertRaises(error, msg=(call.__name__, things)) as held:
            call(*things)
        self.assertIs(held.exception.__class__, error)
        self.assertEqual(things, ahead)
        return held.exception

    def test_bad_floors(self):
        for call, things, at in calls_with("floor"):
            for floor, part, number in WRONG_FLOORS:
                held = self.caught(BadFloor, call, put(things, at, floor))
                self.assertEqual((held.part, held.number), (part, number), (call.__name__, floor))

    def test_bad_suns(self):
        for call, things, at in calls_with("sun"):
            for sun, number in WRONG_SUNS:
                held = self.caught(BadSun, call, put(things, at, sun))
                self.assertEqual(held.number, number, (call.__name__, sun))

    def test_bad_folk(self):
        for call, things, at in calls_with("folk"):
            for folk, number in WRONG_FOLK:
                held = self.caught(BadFolk, call, put(things, at, folk))
                self.assertEqual(held.number, number, (call.__name__, folk))

    def test_bad_counts(self):
        for call, things, at in calls_with("count"):
            for count in WRONG_COUNTS:
                self.caught(BadCount, call, put(things, at, count))

    def test_bad_mosts(self):
        for call, things, at in calls_with("most"):
            for most in WRONG_MOSTS:
                self.caught(BadCount, call, put(things, at, most))

    def test_bad_rules(self):
        for call, things, at in calls_with("rule"):
            for rule in WRONG_RULES:
                self.caught(BadRule, call, put(things, at, rule))

    def test_bad_told(self):
        for call, things, at in calls_with("told"):
            for told, number in WRONG_TOLD:
                held = self.caught(BadTold, call, put(things, at, told))
                self.assertEqual(held.number, number, told)

    def test_bad_papers(self):
        for call, things, at in calls_with("paper"):
            for told, number in WRONG_PAPERS:
                held = self.caught(BadPaper, call, put(things, at, told))
                self.assertEqual(held.number, number, told)

    def test_the_first_wrong_thing_is_refused(self):
        for call, things, kinds in CALLS:
            for early in range(len(kinds)):
                for late in range(early + 1, len(kinds)):
                    both = put(put(things, early, WRONG[kinds[early]][1]), late, WRONG[kinds[late]][1])
                    self.caught(WRONG[kinds[early]][0], call, both)

    def test_all_things_wrong(self):
        for call, things, kinds in CALLS:
            for first in range(len(kinds)):
                wrong = things[:first] + tuple(WRONG[kind][1] for kind in kinds[first:])
                self.caught(WRONG[kinds[first]][0], call, wrong)

    def test_the_first_of_two_wrong_floors(self):
        held = self.caught(BadFloor, parted, ((2, 6, (), ()), (2, 3, None, ()), "x"))
        self.assertEqual((held.part, held.number), (1, 0))
        held = self.caught(BadFloor, parted, ((2, 3, None, ()), (2, 6, (), ()), "x"))
        self.assertEqual((held.part, held.number), (2, 0))

    def test_folk_are_refused_by_their_own_floor(self):
        one = (((2, 4), "near"),)
        self.assertEqual(self.caught(BadFolk, course, ((2, 5, (), ()), "n", one)).number, 0)
        self.assertEqual(self.caught(BadFolk, course, ((3, 4, (), ()), "n", one)).number, 0)
        self.assertEqual(self.caught(BadFolk, course, ((3, 5, ((2, 4, 1),), ()), "n", one)).number, 0)
        self.assertEqual(course((3, 5, ((2, 3, 1),), ((2, 4),)), "o", one), (0, 1, [((2, 4),)]))

    def test_refused_again_alike(self):
        for _ in range(3):
            self.assertEqual(self.caught(BadFolk, course, (FLOOR, "es", FOUR + FOUR)).number, 4)


class Accepted(unittest.TestCase):
    """What the document allows at its edges is not refused."""

    def test_floors_of_all_sizes(self):
        for rows in range(1, 6):
            for columns in range(1, 6):
                far = (rows - 1, columns - 1)
                floor = (rows, columns, ((*far, 4),), ((0, 0),))
                self.assertEqual(shade(floor, "o", 0), [(0, 0)])
                self.assertEqual(course((rows, columns, (), (far,)), "o", ((far, "stay"),)), (0, 1, [(far,)]))

    def test_four_posts_and_eight_awnings(self):
        floor = (2, 4, POSTS, HUNG[:4] + HUNG[5:9])
        self.assertEqual(shade(floor, "o", 0), list(HUNG[:4] + HUNG[5:9]))
        folk = (((0, 2), "near"), ((0, 3), "first"), ((1, 2), "stay"), ((1, 3), "near"))
        self.assertEqual(seated(floor, "o", folk, 5), ((0, 2), (0, 3), (1, 2), (1, 3)))
        self.assertIsNone(parted(floor, floor, "neswo"))

    def test_suns_of_one_to_six_signs(self):
        for many in range(1, 7):
            sun = "neswoo"[:many]
            self.assertEqual(len(course((1, 1, (), ()), sun, ())[2]), many)
            self.assertEqual(shade((1, 1, (), ((0, 0),)), sun, 0), [])

    def test_counts_at_both_ends(self):
        for count in (0, 1, 10 ** 18 - 1, 10 ** 18):
            self.assertEqual(shade((1, 1, (), ((0, 0),)), "o", count), [(0, 0)])
            self.assertEqual(seated((1, 1, (), ()), "o", (((0, 0), "near"),), count), ((0, 0),))

    def test_no_folk_to_four_folk(self):
        for many in range(5):
            cells = tuple(cell for cell, rule in FOUR[:many])
            self.assertEqual(seated(FLOOR, "es", FOUR[:many], 0), cells)
            self.assertEqual(len(scorched(FLOOR, "es", FOUR[:many])), many)

    def test_what_is_handed_in_is_not_changed(self):
        for call, things, kinds in CALLS:
            ahead = copy.deepcopy(things)
            told = call(*things)
            again = call(*things)
            self.assertEqual(told, again)
            self.assertEqual(things, ahead)

    def test_wrong_things_between_change_nothing(self):
        for call, things, kinds in CALLS:
            told = call(*things)
            for at, kind in enumerate(kinds):
                with self.assertRaises(WRONG[kind][0]):
                    call(*put(things, at, WRONG[kind][1]))
            self.assertEqual(call(*things), told)


if __name__ == "__main__":
    unittest.main()

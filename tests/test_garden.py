"""Promises 10 and 11: a garden is gone through by deeds, there and back, one by one and in batches."""

import copy
import unittest

from shadeseats import garden
from shadeseats.errors import BadDeed, BadFloor, BadSun, Halted
from shadeseats.garden import Garden

# A post that shades two cells to the right by "e" and one to the left by "w".
ROW = (1, 4, ((0, 1, 2),), ())
SQUARE = (3, 3, ((1, 1, 1),), ((0, 0), (2, 2)))
COME = ("come", (0, 0), "near")


def state(place):
    return place.there(), place.stands(), place.deeds()


def opened(floor, sun, *deeds):
    place = Garden(floor, sun)
    for deed in deeds:
        place.do(deed)
    return place


class Refusing(unittest.TestCase):
    def refused(self, place, deed):
        ahead = state(place)
        with self.assertRaises(BadDeed) as held:
            place.do(deed)
        self.assertEqual(held.exception.number, 0)
        self.assertEqual(state(place), ahead, deed)


class Interface(unittest.TestCase):
    def test_defined_here(self):
        self.assertEqual(Garden.__module__, "shadeseats.garden")
        self.assertIs(garden.Garden, Garden)

    def test_each_method_stands_in_the_class(self):
        for name in ("do", "back", "batch", "deeds", "there", "stands"):
            self.assertIn(name, vars(Garden))

    def test_arguments_by_name(self):
        place = Garden(floor=ROW, sun="ew")
        self.assertEqual(place.do(deed=COME), 0)
        self.assertEqual(place.batch(deeds=[("beat",)], keep=False), [[]])

    def test_keep_is_handed_in_by_its_name_alone(self):
        place = Garden(ROW, "ew")
        with self.assertRaises(TypeError):
            place.batch([], True)
        self.assertEqual(place.batch([], keep=True), [])


class Opened(unittest.TestCase):
    def test_nobody_is_there(self):
        self.assertEqual(state(Garden(SQUARE, "nes")), ({}, (SQUARE, 0), []))

    def test_wrong_things(self):
        with self.assertRaises(BadFloor) as held:
            Garden((1, 6, (), ()), "x")
        self.assertEqual((held.exception.part, held.exception.number), (1, 0))
        with self.assertRaises(BadSun) as held:
            Garden(ROW, "ewx")
        self.assertEqual(held.exception.number, 2)

    def test_two_gardens_are_apart(self):
        one = opened(ROW, "ew", COME)
        other = Garden(ROW, "ew")
        one.do(("put", (0, 3)))
        self.assertEqual(state(other), ({}, (ROW, 0), []))


class Coming(Refusing):
    def test_told_the_number(self):
        place = Garden(ROW, "ew")
        self.assertEqual(place.do(("come", (0, 3), "near")), 0)
        self.assertEqual(place.do(("come", (0, 0), "first")), 1)
        self.assertEqual(place.do(("come", (0, 2), "stay")), 2)
        self.assertEqual(place.there(), {0: ((0, 3), "near"), 1: ((0, 0), "first"), 2: ((0, 2), "stay")})

    def test_each_number_is_given_once(self):
        place = opened(ROW, "ew", COME)
        place.do(("leave", 0))
        self.assertEqual(place.do(COME), 1)
        self.assertEqual(place.do(("come", (0, 2), "stay")), 2)
        place.do(("leave", 2))
        place.do(("leave", 1))
        self.assertEqual(place.do(COME), 3)
        self.assertEqual(place.there(), {3: ((0, 0), "near")})

    def test_numbers_behind_a_deed_taken_back(self):
        place = opened(ROW, "ew", COME, ("leave", 0))
        place.back()
        self.assertEqual(place.there(), {0: ((0, 0), "near")})
        self.assertEqual(place.do(("come", (0, 2), "stay")), 1)
        place.back()
        self.assertEqual(place.do(("come", (0, 3), "stay")), 1)
        place.do(("leave", 1))
        place.back()
        self.assertEqual(place.do(("come", (0, 2), "stay")), 2)

    def test_a_fifth(self):
        cells = ((0, 0), (0, 1), (0, 2), (1, 0))
        place = opened(SQUARE, "n", *[("come", cell, "stay") for cell in cells])
        self.refused(place, ("come", (2, 2), "stay"))
        place.do(("leave", 1))
        self.assertEqual(place.do(("come", (2, 2), "stay")), 4)
        self.refused(place, ("come", (0, 1), "stay"))

    def test_a_cell_that_is_taken(self):
        place = opened(SQUARE, "n", COME)
        self.refused(place, ("come", (0, 0), "stay"))
        self.refused(place, ("come", (1, 1), "stay"))

    def test_where_folk_sit_now(self):
        place = opened(ROW, "e", COME, ("beat",))
        self.assertEqual(place.there(), {0: ((0, 2), "near")})
        self.refused(place, ("come", (0, 2), "near"))
        self.assertEqual(place.do(COME), 1)

    def test_things_that_are_none(self):
        place = Garden(SQUARE, "n")
        for cell in ((3, 0), (0, 3), (-1, 0), (0, -1), (True, 0), (0, False), (0,), (0, 0, 0), (), [0, 0], 0, None, "00"):
            self.refused(place, ("come", cell, "near"))
        for rule in ("", "far", "Near", 0, True, None, (), ["near"]):
            self.refused(place, ("come", (0, 0), rule))


class Leaving(Refusing):
    def test_tells_none(self):
        place = opened(ROW, "ew", COME, ("come", (0, 3), "stay"))
        self.assertIsNone(place.do(("leave", 0)))
        self.assertEqual(place.there(), {1: ((0, 3), "stay")})

    def test_its_cell_is_free(self):
        place = opened(ROW, "ew", COME, ("leave", 0))
        self.assertEqual(place.do(("come", (0, 0), "stay")), 1)

    def test_one_who_is_not_there(self):
        place = opened(ROW, "ew", COME, ("come", (0, 2), "near"), ("leave", 0))
        for number in (0, 2, 3, -1, 10 ** 18, True, False, None, "1", (), (1,), [1], {}):
            self.refused(place, ("leave", number))
        self.assertIsNone(place.do(("leave", 1)))
        self.refused(place, ("leave", 1))

    def test_truths_are_no_numbers(self):
        place = opened(ROW, "ew", COME, ("come", (0, 2), "near"))
        self.refused(place, ("leave", True))
        self.refused(place, ("leave", False))


class Beats(Refusing):
    def test_tells_who_sits_in_the_sun_behind_it(self):
        place = opened(ROW, "ewn", ("come", (0, 0), "near"), ("come", (0, 3), "stay"))
        self.assertEqual(place.do(("beat",)), [])
        self.assertEqual(place.there(), {0: ((0, 2), "near"), 1: ((0, 3), "stay")})
        self.assertEqual(place.do(("beat",)), [1])
        self.assertEqual(place.there(), {0: ((0, 0), "near"), 1: ((0, 3), "stay")})
        self.assertEqual(place.do(("beat",)), [0, 1])
        self.assertEqual(place.stands(), (ROW, 3))
        self.assertEqual(place.do(("beat",)), [])

    def test_nobody_there(self):
        place = Garden(ROW, "ew")
        self.assertEqual(place.do(("beat",)), [])
        self.assertEqual(place.stands(), (ROW, 1))

    def test_numbers_and_not_places(self):
        place = opened(ROW, "ew", COME, ("come", (0, 3), "stay"), ("come", (0, 2), "stay"), ("leave", 0), ("beat",))
        self.assertEqual(place.do(("beat",)), [1, 2])

    def test_turns_by_numbers(self):
        floor = (1, 5, (), ((0, 2),))
        deeds = [("come", (0, 1), "near"), ("come", (0, 3), "near")]
        place = opened(floor, "o", *deeds, ("beat",))
        self.assertEqual(place.there(), {0: ((0, 2), "near"), 1: ((0, 3), "near")})
        place = opened(floor, "o", *deeds, ("leave", 0), ("come", (0, 1), "near"), ("beat",))
        self.assertEqual(place.there(), {1: ((0, 2), "near"), 2: ((0, 1), "near")})
        self.assertEqual(list(place.there()), [1, 2])

    def test_beats_go_on_through_all_deeds(self):
        place = opened(ROW, "ewww", ("beat",), COME)
        self.assertEqual(place.do(("beat",)), [])
        self.assertEqual(place.there(), {0: ((0, 0), "near")})
        for deed in (("come", (0, 3), "stay"), ("put", (0, 3)), ("take", (0, 3)), ("leave", 1), ("wait", 1)):
            place.do(deed)
        self.assertEqual(place.stands(), (ROW, 3))
        self.assertEqual(place.do(("beat",)), [])
        self.assertEqual(place.there(), {0: ((0, 0), "near")})
        place.do(("beat",))
        self.assertEqual(place.there(), {0: ((0, 2), "near")})
        self.assertEqual(place.stands(), (ROW, 5))

    def test_the_list_may_be_changed(self):
        place = opened(ROW, "n", COME)
        told = place.do(("beat",))
        ahead = copy.deepcopy(state(place))
        told.append(5)
        self.assertEqual(state(place), ahead)
        self.assertEqual(place.do(("beat",)), [0])


class Waiting(Refusing):
    def test_as_so_many_beats(self):
        comes = [("come", (0, 0), "near"), ("come", (0, 3), "first"), ("come", (0, 2), "stay")]
        for many in range(1, 20):
            for ahead in range(4):
                one = opened(ROW, "ewn", *[("beat",)] * ahead, *comes)
                other = opened(ROW, "ewn", *[("beat",)] * ahead, *comes)
                self.assertIsNone(one.do(("wait", many)))
                for _ in range(many):
                    other.do(("beat",))
                self.assertEqual(one.there(), other.there())
                self.assertEqual(one.stands(), other.stands())

    def test_far(self):
        place = opened(ROW, "ew", COME, ("wait", 10 ** 9))
        self.assertEqual((place.there(), place.stands()), ({0: ((0, 0), "near")}, (ROW, 10 ** 9)))
        place.do(("wait", 10 ** 9 - 1))
        self.assertEqual((place.there(), place.stands()), ({0: ((0, 2), "near")}, (ROW, 2 * 10 ** 9 - 1)))
        self.assertEqual(place.do(("beat",)), [])
        self.assertEqual(place.there(), {0: ((0, 0), "near")})

    def test_nobody_there(self):
        place = opened(ROW, "ewn", ("wait", 10 ** 9))
        self.assertEqual(state(place), ({}, (ROW, 10 ** 9), [("wait", 10 ** 9)]))

    def test_counts_that_are_none(self):
        place = opened(ROW, "ew", COME)
        for many in (0, -1, 10 ** 9 + 1, 10 ** 18, True, False, None, "1", "", (), (1,), [], [1]):
            self.refused(place, ("wait", many))
        self.assertIsNone(place.do(("wait", 1)))


class Awnings(Refusing):
    def test_in_the_turn_in_which_they_were_put(self):
        place = Garden(SQUARE, "o")
        for cell in ((2, 0), (0, 2), (1, 1)):
            self.assertIsNone(place.do(("put", cell)))
        self.assertEqual(place.stands(), ((3, 3, ((1, 1, 1),), ((0, 0), (2, 2), (2, 0), (0, 2), (1, 1))), 0))
        self.assertIsNone(place.do(("take", (2, 2))))
        self.assertIsNone(place.do(("take", (0, 2))))
        self.assertEqual(place.stands(), ((3, 3, ((1, 1, 1),), ((0, 0), (2, 0), (1, 1))), 0))
        place.do(("put", (0, 2)))
        self.assertEqual(place.stands(), ((3, 3, ((1, 1, 1),), ((0, 0), (2, 0), (1, 1), (0, 2))), 0))

    def test_taken_back_to_its_own_turn(self):
        place = opened(SQUARE, "o", ("take", (0, 0)))
        self.assertEqual(place.stands(), ((3, 3, ((1, 1, 1),), ((2, 2),)), 0))
        place.back()
        self.assertEqual(place.stands(), (SQUARE, 0))

    def test_shade_from_then_on(self):
        place = opened((1, 3, (), ()), "o", COME)
        self.assertEqual(place.do(("beat",)), [0])
        place.do(("put", (0, 2)))
        self.assertEqual(place.there(), {0: ((0, 0), "near")})
        self.assertEqual(place.do(("beat",)), [])
        self.assertEqual(place.there(), {0: ((0, 2), "near")})
        place.do(("take", (0, 2)))
        self.assertEqual(place.do(("beat",)), [0])

    def test_over_a_post_and_over_folk(self):
        place = opened(SQUARE, "o", COME, ("come", (0, 1), "stay"))
        self.assertIsNone(place.do(("put", (1, 1))))
        self.assertIsNone(place.do(("put", (0, 1))))
        self.assertEqual(place.do(("beat",)), [])

    def test_a_ninth(self):
        cells = [(row, column) for row in range(3) for column in range(3)]
        place = opened((3, 3, (), ()), "o", *[("put", cell) for cell in cells[:8]])
        self.refused(place, ("put", cells[8]))
        place.do(("take", cells[3]))
        self.assertIsNone(place.do(("put", cells[8])))
        self.refused(place, ("put", cells[3]))

    def test_one_where_one_hangs(self):
        place = Garden(SQUARE, "o")
        self.refused(place, ("put", (0, 0)))
        self.refused(place, ("put", (2, 2)))

    def test_none_where_none_hangs(self):
        place = Garden(SQUARE, "o")
        self.refused(place, ("take", (1, 1)))
        self.refused(place, ("take", (0, 1)))
        place.do(("take", (0, 0)))
        self.refused(place, ("take", (0, 0)))

    def test_cells_that_are_none(self):
        place = Garden((3, 3, (), ((0, 0), (1, 0), (1, 1))), "o")
        wrong = ((3, 0), (0, 3), (-1, 0), (0, -1), (True, 0), (0, False), (0,), (0, 0, 0), (), [0, 0], 0, None, "", True)
        for cell in wrong:
            self.refused(place, ("put", cell))
            self.refused(place, ("take", cell))


NO_DEEDS = (
    (), [], "", "beat", ["beat"], 0, 1, -1, True, False, None,
    ("",), ("Beat",), ("beat ",), ("go",), ("do", 1), (None,), (0,), (True,), (("beat",),), (["beat"],), ([],),
    ("beat", 1), ("beat", None), ("come",), ("come", (0, 0)), ("come", (0, 0), "near", 0), ("leave",),
    ("leave", 0, 0), ("wait",), ("wait", 1, 1), ("put",), ("put", 0, 1), ("take",), ("take", 0, 0),
    ["come", (0, 0), "near"],
)


class Deeds(Refusing):
    def test_things_that_are_no_deed(self):
        place = opened(SQUARE, "n", COME)
        for deed in NO_DEEDS:
            self.refused(place, deed)

    def test_done_and_not_taken_back(self):
        deeds = [COME, ("beat",), ("wait", 3), ("put", (0, 1)), ("take", (0, 0)), ("leave", 0)]
        place = opened(SQUARE, "n", *deeds)
        self.assertEqual(place.deeds(), deeds)
        place.back()
        place.back()
        self.assertEqual(place.deeds(), deeds[:4])
        self.refused(place, ("put", (0, 1)))
        place.do(("beat",))
        self.assertEqual(place.deeds(), deeds[:4] + [("beat",)])

    def test_what_is_told_may_be_changed(self):
        place = opened(ROW, "ew", COME)
        place.deeds().append(("beat",))
        place.deeds().clear()
        place.there()[7] = None
        place.there().clear()
        self.assertEqual(state(place), ({0: ((0, 0), "near")}, (ROW, 0), [COME]))

    def test_what_was_told_is_not_changed_later(self):
        place = opened(ROW, "ew", COME)
        told = state(place)
        ahead = copy.deepcopy(told)
        for deed in (("beat",), ("come", (0, 0), "stay"), ("put", (0, 0)), ("leave", 0)):
            place.do(deed)
        place.back()
        self.assertEqual(told, ahead)

    def test_asked_again_the_same(self):
        place = opened(SQUARE, "nes", COME, ("wait", 5), ("put", (0, 1)))
        for _ in range(2):
            self.assertEqual(state(place), state(place))


class Back(unittest.TestCase):
    def test_nothing_to_take_back(self):
        place = Garden(ROW, "ew")
        self.assertIs(place.back(), False)
        self.assertIs(place.back(), False)
        place.do(COME)
        self.assertIs(place.back(), True)
        self.assertIs(place.back(), False)
        self.assertEqual(state(place), ({}, (ROW, 0), []))

    def test_all_the_way(self):
        place = Garden(SQUARE, "nes")
        deeds = [
            COME, ("beat",), ("come", (2, 0), "first"), ("wait", 10 ** 9), ("put", (0, 1)), ("beat",),
            ("take", (0, 0)), ("leave", 0), ("beat",), ("come", (0, 2), "stay"), ("put", (0, 0)), ("wait", 7),
        ]
        stood = []
        for deed in deeds:
            stood.append(state(place))
            place.do(deed)
        for ahead in reversed(stood):
            self.assertIs(place.back(), True)
            self.assertEqual(state(place), ahead)
        self.assertIs(place.back(), False)

    def test_there_again_all_is_told_again(self):
        deeds = [COME, ("come", (2, 0), "stay"), ("beat",), ("leave", 0), ("beat",), ("come", (0, 1), "first")]
        place = Garden(SQUARE, "nes")
        told = [place.do(deed) for deed in deeds]
        stood = state(place)
        for _ in deeds:
            place.back()
        self.assertEqual([place.do(deed) for deed in deeds], told)
        self.assertEqual(state(place), stood)

    def test_what_was_refused_is_not_taken_back(self):
        place = opened(ROW, "ew", COME, ("beat",))
        with self.assertRaises(BadDeed):
            place.do(("leave", 1))
        self.assertIs(place.back(), True)
        self.assertEqual(state(place), ({0: ((0, 0), "near")}, (ROW, 0), [COME]))


class Batch(unittest.TestCase):
    DEEDS = [COME, ("beat",), ("come", (0, 0), "stay"), ("put", (0, 0)), ("wait", 2), ("beat",), ("leave", 0)]

    def test_tells_what_each_tells(self):
        for keep in (True, False):
            place = Garden(ROW, "ew")
            told = place.batch(self.DEEDS, keep=keep)
            self.assertEqual(told, [0, [], 1, None, None, [0], None])
            one_by_one = Garden(ROW, "ew")
            self.assertEqual([one_by_one.do(deed) for deed in self.DEEDS], told)
            self.assertEqual(state(place), state(one_by_one))

    def test_an_empty_list(self):
        place = opened(ROW, "ew", COME)
        ahead = state(place)
        for keep in (True, False):
            self.assertEqual(place.batch([], keep=keep), [])
            self.assertEqual(state(place), ahead)

    def test_back_takes_back_its_last_one(self):
        place = Garden(ROW, "ew")
        place.batch(self.DEEDS)
        self.assertIs(place.back(), True)
        self.assertEqual(state(place), state(opened(ROW, "ew", *self.DEEDS[:-1])))
        self.assertEqual(len([1 for _ in range(20) if place.back()]), len(self.DEEDS) - 1)

    def test_the_list_is_not_changed_and_not_kept(self):
        place = Garden(ROW, "ew")
        deeds = list(self.DEEDS)
        told = place.batch(deeds)
        self.assertEqual(deeds, self.DEEDS)
        deeds.clear()
        told.clear()
        self.assertEqual(place.deeds(), self.DEEDS)

    def halted(self, place, deeds, number, done, **keep):
        ahead = copy.deepcopy(deeds)
        with self.assertRaises(Halted) as held:
            place.batch(deeds, **keep)
        self.assertEqual((held.exception.number, held.exception.done), (number, done))
        self.assertEqual(deeds, ahead)

    # The first of each that can't be done, behind a garden with one who sits at (0, 3).
    HALTING = (
        ([("leave", 1)], 0),
        ([("come", (0, 3), "near")], 0),
        ([("beat",), ("come", (0, 1), "near")], 1),
        ([COME, ("leave", 1), ("leave", 1), ("leave", 2)], 2),
        ([COME, ("put", (0, 0)), ("put", (0, 0)), ("leave", 9)], 2),
        ([("wait", 5), ("beat",), COME, ("take", (0, 0)), COME], 3),
        ([("beat",), COME, ("wait", 0)], 2),
        ([COME, ("come", 5, "near")], 1),
        ([COME, ("come", (0, 2), None), ("wait", True)], 1),
    )

    def test_halts_and_keeps_all_ahead_of_it(self):
        for keep in ({}, {"keep": True}):
            for deeds, number in self.HALTING:
                place = opened(ROW, "wwe", ("come", (0, 3), "stay"))
                self.halted(place, deeds, number, number, **keep)
                self.assertEqual(state(place), state(opened(ROW, "wwe", ("come", (0, 3), "stay"), *deeds[:number])))
                for left in reversed(range(number + 1)):
                    self.assertEqual(len(place.deeds()), left + 1)
                    self.assertIs(place.back(), True)
                self.assertIs(place.back(), False)

    def test_halts_and_keeps_none(self):
        for deeds, number in self.HALTING:
            place = opened(ROW, "wwe", ("come", (0, 3), "stay"))
            ahead = state(place)
            self.halted(place, deeds, number, 0, keep=False)
            self.assertEqual(state(place), ahead)
            self.assertEqual(place.do(COME), 1)
            place.back()
            self.assertIs(place.back(), True)
            self.assertIs(place.back(), False)

    def test_done_counts_the_deeds_of_the_batch_alone(self):
        place = opened(ROW, "ew", COME, ("beat",), ("beat",))
        self.halted(place, [("beat",), ("leave", 4)], 1, 1)
        self.assertEqual(len(place.deeds()), 4)

    def test_a_halt_by_what_the_batch_did(self):
        cells = [(row, column) for row in range(2) for column in range(5)]
        place = Garden((5, 5, (), ()), "o")
        self.halted(place, [("put", cell) for cell in cells], 8, 8)
        place = Garden((5, 5, (), ()), "o")
        self.halted(place, [("come", cell, "near") for cell in cells], 4, 0, keep=False)
        self.assertEqual(place.there(), {})

    def refused(self, place, deeds, number):
        for keep in (True, False):
            ahead = state(place)
            with self.assertRaises(BadDeed) as held:
                place.batch(deeds, keep=keep)
            self.assertEqual(held.exception.number, number)
            self.assertEqual(state(place), ahead)

    def test_no_list(self):
        place = opened(ROW, "ew", COME)
        for deeds in ((), (("beat",),), ("beat",), "", "beat", 0, 1, True, False, None):
            self.refused(place, deeds, 0)

    def test_one_that_is_no_deed(self):
        place = opened(SQUARE, "n", COME)
        for deed in NO_DEEDS:
            self.refused(place, [deed], 0)
            self.refused(place, [("beat",), ("wait", 3), deed, ("beat",)], 2)

    def test_one_that_is_no_deed_behind_one_that_cannot_be_done(self):
        place = opened(SQUARE, "n", COME)
        self.refused(place, [("beat",), ("leave", 7), ("wait", 0), ("go",), None], 3)


if __name__ == "__main__":
    unittest.main()

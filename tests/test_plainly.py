"""Promises 3 to 6 on many small floors, against a plain second telling of the document."""

import itertools
import unittest

from shadeseats.floors import parted, shade
from shadeseats.moving import course, restless, scorched, seated

SIDES = {"n": (-1, 0), "e": (0, 1), "s": (1, 0), "w": (0, -1)}


def cells_of(floor):
    return [(row, column) for row in range(floor[0]) for column in range(floor[1])]


def is_shaded(floor, sign, cell):
    """Whether a cell is in the shade, looked at from the cell back to what may shade it."""
    if sign == "o":
        return cell in floor[3]
    down, right = SIDES[sign]
    if (cell[0] - down, cell[1] - right) in floor[3]:
        return True
    for far in range(1, 5):
        for row, column, high in floor[2]:
            if (row, column) == (cell[0] - down * far, cell[1] - right * far) and far <= high:
                return True
    return False


def plain_shade(floor, sign):
    return [cell for cell in cells_of(floor) if is_shaded(floor, sign, cell)]


def one_beat(floor, sign, seats, rules):
    posts = [post[:2] for post in floor[2]]
    seats = list(seats)
    for number, rule in enumerate(rules):
        at = seats[number]
        if is_shaded(floor, sign, at) or rule == "stay":
            continue
        goals = [cell for cell in plain_shade(floor, sign) if cell not in posts + seats]
        if rule == "near":
            goals = sorted(goals, key=lambda cell: (abs(cell[0] - at[0]) + abs(cell[1] - at[1]), cell))
        seats[number] = goals[0] if goals else at
    return tuple(seats)


def plain_seats(floor, sun, folk, many):
    """The seats ahead of beats 0 to many."""
    rules = [rule for cell, rule in folk]
    told = [tuple(cell for cell, rule in folk)]
    for beat in range(many):
        told.append(one_beat(floor, sun[beat % len(sun)], told[-1], rules))
    return told


def scenes():
    """Some hundred floors with a sun and folk, every seventh of all that are built here."""
    floors = [
        (rows, columns, posts, awnings)
        for rows, columns in ((1, 4), (2, 3), (3, 2))
        for posts in ((), ((0, 1, 2),), ((0, 0, 1), (rows - 1, 1, 3)))
        for awnings in ((), ((0, 0),), ((rows - 1, columns - 1), (0, 1)))
    ]
    suns = ("n", "ew", "eso", "wnse", "oo", "swoene")
    built = []
    for floor, sun in itertools.product(floors, suns):
        posts = [post[:2] for post in floor[2]]
        free = [cell for cell in cells_of(floor) if cell not in posts]
        for cells in itertools.permutations(free, 2):
            for rules in itertools.product(("near", "first", "stay"), repeat=2):
                built.append((floor, sun, tuple(zip(cells, rules))))
    return built[::7]


class Plainly(unittest.TestCase):
    def test_shade(self):
        for floor, sun, folk in scenes()[::10]:
            for beat in range(8):
                self.assertEqual(shade(floor, sun, beat), plain_shade(floor, sun[beat % len(sun)]))

    def test_parted(self):
        some = scenes()[::40]
        for (floor, sun, folk), (other, _, _) in zip(some, some[5:]):
            apart = [
                (beat, cell)
                for beat, sign in enumerate(sun)
                for cell in cells_of((5, 5))
                if (cell in plain_shade(floor, sign)) != (cell in plain_shade(other, sign))
            ]
            self.assertEqual(parted(floor, other, sun), min(apart, default=None))

    def test_seated(self):
        for floor, sun, folk in scenes()[::5]:
            for many, seats in enumerate(plain_seats(floor, sun, folk, 20)):
                self.assertEqual(seated(floor, sun, folk, many), seats)

    def test_course(self):
        for floor, sun, folk in scenes():
            start, turn, seats = course(floor, sun, folk)
            plain = plain_seats(floor, sun, folk, start + turn)
            self.assertEqual(seats, plain[:-1])
            stands = [(beat % len(sun), at) for beat, at in enumerate(plain)]
            self.assertEqual(stands[-1], stands[start])
            # Nothing stands as it did sooner, so from and turn are the least.
            self.assertEqual(len(set(stands)), len(stands) - 1)

    def test_restless_and_scorched(self):
        for floor, sun, folk in scenes()[::3]:
            start, turn, seats = course(floor, sun, folk)
            plain = plain_seats(floor, sun, folk, start + turn)
            moving = []
            hot = []
            for number in range(len(folk)):
                if any(at[number] != plain[start][number] for at in plain[start:]):
                    moving.append(number)
                in_sun = [
                    not is_shaded(floor, sun[beat % len(sun)], plain[beat + 1][number])
                    for beat in range(start + turn)
                ]
                hot.append((sum(in_sun[:start]), sum(in_sun[start:])))
            self.assertEqual(restless(floor, sun, folk), moving)
            self.assertEqual(scorched(floor, sun, folk), hot)


if __name__ == "__main__":
    unittest.main()

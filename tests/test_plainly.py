"""Promises 3 to 11 on many small floors, against a plain second telling of the document."""

import itertools
import unittest

from shadeseats.errors import BadDeed, Halted, InSun
from shadeseats.floors import parted, shade
from shadeseats.garden import Garden
from shadeseats.moving import course, restless, scorched, seated
from shadeseats.telling import awnings, paper, parting, shows, suns

SIDES = {"n": (-1, 0), "e": (0, 1), "s": (1, 0), "w": (0, -1)}


def cells_of(floor):
    return [(row, column) for row in range(floor[0]) for column in range(floor[1])]


def is_shaded(floor, sign, cell):
    """Whether a cell is in the shade, looked at from the cell back to what may shade it."""
    if sign == "o":
        return cell in floor[3]
    down, right = SIDES[sign]
    if (cell[0] - down, cell[1] - right) in floor[3]:
        return True
    for far in range(1, 5):
        for row, column, high in floor[2]:
            if (row, column) == (cell[0] - down * far, cell[1] - right * far) and far <= high:
                return True
    return False


def plain_shade(floor, sign):
    return [cell for cell in cells_of(floor) if is_shaded(floor, sign, cell)]


def one_beat(floor, sign, seats, rules):
    posts = [post[:2] for post in floor[2]]
    seats = list(seats)
    for number, rule in enumerate(rules):
        at = seats[number]
        if is_shaded(floor, sign, at) or rule == "stay":
            continue
        goals = [cell for cell in plain_shade(floor, sign) if cell not in posts + seats]
        if rule == "near":
            goals = sorted(goals, key=lambda cell: (abs(cell[0] - at[0]) + abs(cell[1] - at[1]), cell))
        seats[number] = goals[0] if goals else at
    return tuple(seats)


def plain_seats(floor, sun, folk, many):
    """The seats ahead of beats 0 to many."""
    rules = [rule for cell, rule in folk]
    told = [tuple(cell for cell, rule in folk)]
    for beat in range(many):
        told.append(one_beat(floor, sun[beat % len(sun)], told[-1], rules))
    return told


def scenes():
    """Some hundred floors with a sun and folk, every seventh of all that are built here."""
    floors = [
        (rows, columns, posts, hung)
        for rows, columns in ((1, 4), (2, 3), (3, 2))
        for posts in ((), ((0, 1, 2),), ((0, 0, 1), (rows - 1, 1, 3)))
        for hung in ((), ((0, 0),), ((rows - 1, columns - 1), (0, 1)))
    ]
    texts = ("n", "ew", "eso", "wnse", "oo", "swoene")
    built = []
    for floor, sun in itertools.product(floors, texts):
        posts = [post[:2] for post in floor[2]]
        free = [cell for cell in cells_of(floor) if cell not in posts]
        for cells in itertools.permutations(free, 2):
            for rules in itertools.product(("near", "first", "stay"), repeat=2):
                built.append((floor, sun, tuple(zip(cells, rules))))
    return built[::7]


class Plainly(unittest.TestCase):
    def test_shade(self):
        for floor, sun, folk in scenes()[::10]:
            for beat in range(8):
                self.assertEqual(shade(floor, sun, beat), plain_shade(floor, sun[beat % len(sun)]))

    def test_parted(self):
        some = scenes()[::40]
        for (floor, sun, folk), (other, _, _) in zip(some, some[5:]):
            apart = [
                (beat, cell)
                for beat, sign in enumerate(sun)
                for cell in cells_of((5, 5))
                if (cell in plain_shade(floor, sign)) != (cell in plain_shade(other, sign))
            ]
            self.assertEqual(parted(floor, other, sun), min(apart, default=None))

    def test_seated(self):
        for floor, sun, folk in scenes()[::5]:
            for many, seats in enumerate(plain_seats(floor, sun, folk, 20)):
                self.assertEqual(seated(floor, sun, folk, many), seats)

    def test_course(self):
        for floor, sun, folk in scenes():
            start, turn, seats = course(floor, sun, folk)
            plain = plain_seats(floor, sun, folk, start + turn)
            self.assertEqual(seats, plain[:-1])
            stands = [(beat % len(sun), at) for beat, at in enumerate(plain)]
            self.assertEqual(stands[-1], stands[start])
            # Nothing stands as it did sooner, so from and turn are the least.
            self.assertEqual(len(set(stands)), len(stands) - 1)

    def test_restless_and_scorched(self):
        for floor, sun, folk in scenes()[::3]:
            start, turn, seats = course(floor, sun, folk)
            plain = plain_seats(floor, sun, folk, start + turn)
            moving = []
            hot = []
            for number in range(len(folk)):
                if any(at[number] != plain[start][number] for at in plain[start:]):
                    moving.append(number)
                in_sun = [
                    not is_shaded(floor, sun[beat % len(sun)], plain[beat + 1][number])
                    for beat in range(start + turn)
                ]
                hot.append((sum(in_sun[:start]), sum(in_sun[start:])))
            self.assertEqual(restless(floor, sun, folk), moving)
            self.assertEqual(scorched(floor, sun, folk), hot)


def plain_suns(floor, folk, told):
    """Each text of so many signs, tried from the first beat on."""
    rules = [rule for cell, rule in folk]
    fitting = []
    for signs in itertools.product("enosw", repeat=len(told)):
        now = tuple(cell for cell, rule in folk)
        fits = True
        for sign, seats in zip(signs, told):
            now = one_beat(floor, sign, now, rules)
            fits = fits and now == seats
        if fits:
            fitting.append("".join(signs))
    return fitting


def plain_parting(floor, sun, one, other):
    posts = [post[:2] for post in floor[2]]
    free = [cell for cell in cells_of(floor) if cell not in posts]
    # More beats than one who sits alone needs until all comes again by both rules.
    many = len(sun) * len(free) ** 2 + 1
    apart = []
    for cell in free:
        walks = [plain_seats(floor, sun, ((cell, rule),), many) for rule in (one, other)]
        apart.extend((beat, cell) for beat in range(many) if walks[0][beat] != walks[1][beat])
    return min(apart, default=None)


def hot_behind(floor, sign, seats):
    return any(not is_shaded(floor, sign, cell) for cell in seats)


def plain_walk(floor, sun, folk):
    """The first beat behind which somebody sits in the sun, or None, and all (beat, seats) until all comes again."""
    rules = [rule for cell, rule in folk]
    now = (0, tuple(cell for cell, rule in folk))
    been = []
    hot = []
    while now not in been:
        been.append(now)
        place, seats = now
        seats = one_beat(floor, sun[place], seats, rules)
        if hot_behind(floor, sun[place], seats):
            hot.append(len(been) - 1)
        now = ((place + 1) % len(sun), seats)
    return min(hot, default=None), sorted(been)


def plain_awnings(floor, sun, folk, most):
    for many in range(most + 1):
        for more in itertools.combinations(cells_of(floor), many):
            if not any(cell in floor[3] for cell in more):
                if plain_walk(floor[:3] + (floor[3] + more,), sun, folk)[0] is None:
                    return more
    return None


def plain_shows(floor, sun, folk, told):
    rules = [rule for cell, rule in folk]
    if (0, tuple(cell for cell, rule in folk)) not in told:
        return False
    for place, seats in told:
        behind = one_beat(floor, sun[place], seats, rules)
        if hot_behind(floor, sun[place], behind) or ((place + 1) % len(sun), behind) not in told:
            return False
    return True


class Telling(unittest.TestCase):
    def test_suns(self):
        for floor, sun, folk in scenes()[::25]:
            for many in range(4):
                told = tuple(plain_seats(floor, sun, folk, many)[1:])
                self.assertEqual(suns(floor, folk, told), plain_suns(floor, folk, told))
                # Much the same, but seats that are seldom reached at the last beat.
                told = told[:-1] + tuple(tuple(reversed(seats)) for seats in told[-1:])
                self.assertEqual(suns(floor, folk, told), plain_suns(floor, folk, told))

    def test_suns_of_many_beats(self):
        for floor, sun, folk in scenes()[::700]:
            told = tuple(plain_seats(floor, sun, folk, 6)[1:])
            fitting = suns(floor, folk, told)
            self.assertIn((sun * 6)[:6], fitting)
            self.assertEqual(fitting, plain_suns(floor, folk, told))

    def test_parting(self):
        seen = {}
        for floor, sun, _ in scenes()[::9]:
            for rules in itertools.permutations(("near", "first", "stay"), 2):
                if (floor, sun, rules) not in seen:
                    seen[(floor, sun, rules)] = parting(floor, sun, *rules)
        for (floor, sun, rules), told in seen.items():
            self.assertEqual(told, plain_parting(floor, sun, *rules))
        self.assertGreater(len([told for told in seen.values() if told is not None and told[0] > 1]), 20)
        self.assertGreater(len([told for told in seen.values() if told is None]), 20)

    def test_awnings(self):
        lengths = {}
        for floor, sun, folk in scenes()[::11]:
            for most in range(4):
                told = awnings(floor, sun, folk, most)
                self.assertEqual(told, plain_awnings(floor, sun, folk, most))
                lengths[None if told is None else len(told)] = True
        self.assertEqual(set(lengths), {None, 0, 1, 2, 3})

    def test_paper(self):
        beats = {}
        for floor, sun, folk in scenes():
            hot, been = plain_walk(floor, sun, folk)
            beats[hot] = True
            if hot is None:
                self.assertEqual(paper(floor, sun, folk), been)
            else:
                with self.assertRaises(InSun) as held:
                    paper(floor, sun, folk)
                self.assertEqual(held.exception.beat, hot)
        self.assertGreaterEqual(set(beats), {None, 0, 1, 2})

    def test_shows(self):
        for floor, sun, folk in scenes()[::3]:
            been = plain_walk(floor, sun, folk)[1]
            for told in (been, been[1:], been[:-1], [(0, been[0][1])]):
                self.assertEqual(shows(floor, sun, folk, told), plain_shows(floor, sun, folk, told))

    def test_shows_wherever_they_sit(self):
        answers = []
        for floor, sun, folk in scenes()[::60]:
            told = plain_walk(floor, sun, folk)[1]
            for seats in itertools.product(cells_of(floor), repeat=2):
                more = told + [(place, seats) for place in range(len(sun)) if (place, seats) not in told]
                answers.append(shows(floor, sun, folk, more))
                self.assertEqual(answers[-1], plain_shows(floor, sun, folk, more))
        self.assertGreater(answers.count(True), 50)
        self.assertGreater(answers.count(False), 50)


class PlainGarden:
    """A garden that knows its deeds alone, and does them all again from the first one on for each answer."""

    def __init__(self, floor, sun):
        self.floor = floor
        self.sun = sun
        self.done = []

    def gone(self, deeds):
        """What each deed tells, who is there, the awnings, how many beats went by; None if one can't be done."""
        told = []
        there = {}
        hung = list(self.floor[3])
        beats = 0
        given = 0
        posts = [post[:2] for post in self.floor[2]]
        for word, *things in deeds:
            answer = None
            if word == "come":
                cell, rule = things
                taken = posts + [at for at, _ in there.values()]
                if cell not in cells_of(self.floor) or cell in taken or len(there) == 4:
                    return None
                there[given] = (cell, rule)
                answer = given
                given += 1
            elif word == "leave":
                if things[0] not in there:
                    return None
                del there[things[0]]
            elif word in ("beat", "wait"):
                for _ in range(things[0] if things else 1):
                    numbers = sorted(there)
                    floor = self.floor[:3] + (hung,)
                    sign = self.sun[beats % len(self.sun)]
                    rules = [there[number][1] for number in numbers]
                    seats = one_beat(floor, sign, [there[number][0] for number in numbers], rules)
                    there = dict(zip(numbers, zip(seats, rules)))
                    beats += 1
                    if word == "beat":
                        answer = [number for number in numbers if not is_shaded(floor, sign, there[number][0])]
            elif word == "put":
                if things[0] not in cells_of(self.floor) or things[0] in hung or len(hung) == 8:
                    return None
                hung.append(things[0])
            else:
                if things[0] not in hung:
                    return None
                hung.remove(things[0])
            told.append(answer)
        return told, there, (self.floor[:3] + (tuple(hung),), beats)


def some_numbers(seed):
    """Numbers without end that look like chance, the same ones by the same seed."""
    while True:
        seed = (seed * 1103515245 + 12345) % 2 ** 31
        yield seed // 2 ** 16


def some_deed(numbers):
    cell = (next(numbers) % 3, next(numbers) % 4)
    deeds = (
        ("come", cell, ("near", "first", "stay")[next(numbers) % 3]),
        ("come", cell, ("near", "first")[next(numbers) % 2]),
        ("leave", next(numbers) % 6),
        ("beat",), ("beat",), ("wait", next(numbers) % 9 + 1),
        ("put", cell), ("put", cell), ("take", cell),
    )
    return deeds[next(numbers) % len(deeds)]


FLOORS = (
    (3, 4, ((1, 1, 2), (0, 3, 1)), ((0, 0),)),
    (2, 4, (), ((0, 0), (1, 3), (0, 2), (1, 1), (0, 1))),
    (3, 3, ((2, 2, 4),), ()),
)


class Gardens(unittest.TestCase):
    def same(self, place, plain):
        _, there, stands = plain.gone(plain.done)
        self.assertEqual(place.there(), there)
        self.assertEqual(list(place.there()), sorted(there))
        self.assertEqual(place.stands(), stands)
        self.assertEqual(place.deeds(), plain.done)

    def test_one_by_one(self):
        refused = 0
        for floor, sun in itertools.product(FLOORS, ("ew", "neswo", "oos")):
            numbers = some_numbers(len(sun) * floor[0])
            place = Garden(floor, sun)
            plain = PlainGarden(floor, sun)
            for _ in range(120):
                deed = some_deed(numbers)
                gone = plain.gone(plain.done + [deed])
                if next(numbers) % 5 == 0:
                    self.assertEqual(place.back(), bool(plain.done))
                    plain.done = plain.done[:-1]
                elif gone is None:
                    refused += 1
                    with self.assertRaises(BadDeed):
                        place.do(deed)
                else:
                    self.assertEqual(place.do(deed), gone[0][-1])
                    plain.done.append(deed)
                self.same(place, plain)
        self.assertGreater(refused, 100)

    def test_batches(self):
        halts = 0
        for floor, sun, keep in itertools.product(FLOORS, ("we", "owesn"), (True, False)):
            numbers = some_numbers(len(sun) + floor[0])
            place = Garden(floor, sun)
            plain = PlainGarden(floor, sun)
            for _ in range(60):
                deeds = [some_deed(numbers) for _ in range(next(numbers) % 4)]
                fit = len(deeds)
                while plain.gone(plain.done + deeds[:fit]) is None:
                    fit -= 1
                if fit == len(deeds):
                    told = plain.gone(plain.done + deeds)[0]
                    self.assertEqual(place.batch(deeds, keep=keep), told[len(plain.done):])
                    plain.done += deeds
                else:
                    halts += 1
                    with self.assertRaises(Halted) as held:
                        place.batch(deeds, keep=keep)
                    self.assertEqual((held.exception.number, held.exception.done), (fit, fit if keep else 0))
                    plain.done += deeds[:fit] if keep else []
                self.same(place, plain)
                if next(numbers) % 3 == 0:
                    self.assertEqual(place.back(), bool(plain.done))
                    plain.done = plain.done[:-1]
                    self.same(place, plain)
        self.assertGreater(halts, 100)


if __name__ == "__main__":
    unittest.main()

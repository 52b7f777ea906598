"""A garden that is gone through by deeds, there and back.

A stand is what a garden is at one time: (floor, there, beats, given), with the floor as it is hung now,
{number: (cell, rule)} of those who are there, by rising numbers, how many beats went by, and how many numbers
were given. A stand is never changed: each deed leads to a new one, so that it can be taken back.
"""

from shadeseats.checks import check_awnings, check_floor, check_folk, check_sun, is_cell, is_whole
from shadeseats.errors import BadDeed, BadFloor, BadFolk, Halted
from shadeseats.moving import beat_of, in_sun, seats_behind

# How many things a deed has, its word among them.
THINGS = {"come": 3, "leave": 2, "beat": 1, "wait": 2, "put": 2, "take": 2}


def is_deed(thing):
    """Whether thing is a tuple of a deed's word and so many things, whatever these are."""
    if not isinstance(thing, tuple) or len(thing) == 0 or not isinstance(thing[0], str):
        return False
    return THINGS.get(thing[0]) == len(thing)


def come(stand, cell, rule):
    floor, there, beats, given = stand
    one = (cell, rule)
    try:
        check_folk(tuple(there.values()) + (one,), floor)
    except BadFolk:
        raise BadDeed(0) from None
    return (floor, {**there, given: one}, beats, given + 1), given


def leave(stand, number):
    floor, there, beats, given = stand
    # A truth would be found there as a number, so the kind comes first.
    if not is_whole(number, 0, given) or number not in there:
        raise BadDeed(0)
    rest = {other: there[other] for other in there if other != number}
    return (floor, rest, beats, given), None


def waited(stand, sun, many):
    """The stand behind so many beats more."""
    floor, there, beats, given = stand
    place = beats % len(sun)
    seats = seats_behind(floor, sun[place:] + sun[:place], tuple(there.values()), many)
    now = {number: (cell, there[number][1]) for number, cell in zip(there, seats)}
    return floor, now, beats + many, given


def beat(stand, sun):
    floor, there, beats, _ = stand
    behind = waited(stand, sun, 1)
    seats = [cell for cell, rule in behind[1].values()]
    numbers = list(there)
    hot = in_sun(seats, beat_of(floor, sun[beats % len(sun)]))
    return behind, [numbers[place] for place in hot]


def wait(stand, sun, many):
    if not is_whole(many, 1, 10 ** 9):
        raise BadDeed(0)
    return waited(stand, sun, many), None


def put(stand, cell):
    (rows, columns, posts, hung), there, beats, given = stand
    floor = (rows, columns, posts, hung + (cell,))
    try:
        check_awnings(floor)
    except BadFloor:
        raise BadDeed(0) from None
    return (floor, there, beats, given), None


def take(stand, cell):
    floor, there, beats, given = stand
    rows, columns, posts, hung = floor
    # (True, 0) would be found among the awnings as (1, 0), so the form comes first.
    if not is_cell(cell, floor) or cell not in hung:
        raise BadDeed(0)
    rest = tuple([other for other in hung if other != cell])
    return ((rows, columns, posts, rest), there, beats, given), None


def done(stand, sun, deed):
    """The stand behind a deed of the right form, and what the deed tells."""
    word = deed[0]
    if word == "come":
        return come(stand, deed[1], deed[2])
    if word == "leave":
        return leave(stand, deed[1])
    if word == "beat":
        return beat(stand, sun)
    if word == "wait":
        return wait(stand, sun, deed[1])
    if word == "put":
        return put(stand, deed[1])
    return take(stand, deed[1])


class Garden:
    """A floor and a sun, nobody there at first, and the deeds that were done."""

    def __init__(self, floor, sun):
        check_floor(floor)
        check_sun(sun)
        self._sun = sun
        self._stand = (floor, {}, 0, 0)
        # Each deed with the stand ahead of it.
        self._past = []

    def do(self, deed):
        """Do one deed and tell what it tells."""
        if not is_deed(deed):
            raise BadDeed(0)
        stand, told = done(self._stand, self._sun, deed)
        self._past.append((deed, self._stand))
        self._stand = stand
        return told

    def back(self):
        """Take the last deed back, and tell whether there was one."""
        if not self._past:
            return False
        _, self._stand = self._past.pop()
        return True

    def batch(self, deeds, *, keep=True):
        """Do a list of deeds and tell what each tells."""
        if not isinstance(deeds, list):
            raise BadDeed(0)
        for number, deed in enumerate(deeds):
            if not is_deed(deed):
                raise BadDeed(number)
        told = []
        for number, deed in enumerate(deeds):
            try:
                told.append(self.do(deed))
            except BadDeed:
                if keep is True:
                    raise Halted(number, number) from None
                self._take_back(number)
                raise Halted(number, 0) from None
        return told

    def _take_back(self, many):
        for _ in range(many):
            self.back()

    def deeds(self):
        """The deeds that were done and not taken back."""
        return [deed for deed, stand in self._past]

    def there(self):
        """Who is there: {number: (cell, rule)}."""
        there = self._stand[1]
        return {number: there[number] for number in there}

    def stands(self):
        """The floor, with its awnings in the turn in which they were put, and how many beats went by."""
        floor, _, beats, _ = self._stand
        return floor, beats

"""Which suns fit what was seen, where two rules part, and how nobody comes to sit in the sun."""

from itertools import combinations

from shadeseats.checks import (
    SIGNS, check_floor, check_folk, check_most, check_paper, check_rule, check_scene, check_sun, check_told,
)
from shadeseats.errors import InSun
from shadeseats.moving import beat_of, beats_of, in_sun, moved, rules_of, seats_of, without_posts


def cells_of(floor):
    """All cells of a floor, rising."""
    return [(row, column) for row in range(floor[0]) for column in range(floor[1])]


def suns(floor, folk, told):
    """All suns, rising, by which folk sat where it is told behind each beat."""
    check_floor(floor)
    check_folk(folk, floor)
    check_told(told, floor, folk)
    rules = rules_of(folk)
    now = seats_of(folk)
    fitting = [""]
    for seats in told:
        # What is told fixes the seats ahead of each beat, so each beat has its signs by itself.
        signs = [sign for sign in sorted(SIGNS) if moved(now, rules, beat_of(floor, sign)) == seats]
        fitting = [begun + sign for begun in fitting for sign in signs]
        now = seats
    return fitting


def parting(floor, sun, one, other):
    """How soon, and from which cell on, one who sits alone sits otherwise by one rule than by the other."""
    check_floor(floor)
    check_sun(sun)
    check_rule(one)
    check_rule(other)
    beats = beats_of(floor, sun)
    starts = without_posts(cells_of(floor), floor)
    now = {cell: (cell,) for cell in starts}
    # One turn of the sun is enough: behind it one sits at a cell that is among the starts itself.
    for place, beat in enumerate(beats):
        for cell in starts:
            seats = moved(now[cell], [one], beat)
            if seats != moved(now[cell], [other], beat):
                return place + 1, cell
            now[cell] = seats
    return None


def tried(floor, sun, folk):
    """The first beat behind which somebody sits in the sun, or None, and the (beat, seats) that come to be till then.

    The floor may have more awnings than one that is handed in.
    """
    beats = beats_of(floor, sun)
    rules = rules_of(folk)
    now = seats_of(folk)
    many = 0
    pairs = set()
    while (many % len(sun), now) not in pairs:
        place = many % len(sun)
        pairs.add((place, now))
        now = moved(now, rules, beats[place])
        if in_sun(now, beats[place]):
            return many, sorted(pairs)
        many += 1
    return None, sorted(pairs)


def awnings(floor, sun, folk, most):
    """The fewest cells, up to most, over which more awnings let nobody sit in the sun, or None."""
    check_scene(floor, sun, folk)
    check_most(most)
    rows, columns, posts, hung = floor
    free = [cell for cell in cells_of(floor) if cell not in hung]
    for many in range(most + 1):
        for more in combinations(free, many):
            beat, _ = tried((rows, columns, posts, hung + more), sun, folk)
            if beat is None:
                return more
    return None


def paper(floor, sun, folk):
    """All (beat, seats) that come to be, rising, if nobody ever sits in the sun."""
    check_scene(floor, sun, folk)
    beat, pairs = tried(floor, sun, folk)
    if beat is not None:
        raise InSun(beat)
    return pairs


def shows(floor, sun, folk, told):
    """Whether a paper shows that nobody ever sits in the sun."""
    check_scene(floor, sun, folk)
    check_paper(told, floor, sun, folk)
    if (0, seats_of(folk)) not in told:
        return False
    beats = beats_of(floor, sun)
    rules = rules_of(folk)
    pairs = set(told)
    for place, seats in told:
        behind = moved(seats, rules, beats[place])
        if in_sun(behind, beats[place]) or ((place + 1) % len(sun), behind) not in pairs:
            return False
    return True

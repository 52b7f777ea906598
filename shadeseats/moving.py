"""How folk move beat by beat, and when all comes again."""

from shadeseats.checks import check_beats, check_scene
from shadeseats.floors import shaded


def shelter(floor, sign):
    """The cells in the shade by one sign where no post stands, rising."""
    posts = [(row, column) for row, column, high in floor[2]]
    return [cell for cell in shaded(floor, sign) if cell not in posts]


def shelters(floor, sun):
    """The shelter of each place of the sun's text."""
    return [shelter(floor, sign) for sign in sun]


def steps_between(cell, other):
    return abs(cell[0] - other[0]) + abs(cell[1] - other[1])


def next_seat(cell, rule, free):
    """Where one goes who sits in the sun, if free are the cells to go to, rising."""
    if rule == "stay" or not free:
        return cell
    if rule == "first":
        return free[0]
    # Of several cells equally near min tells the one that comes first.
    return min(free, key=lambda other: steps_between(cell, other))


def moved(seats, rules, cells):
    """Where folk sit behind a beat, if cells are its shelter and they sat at seats ahead of it."""
    now = list(seats)
    for number, rule in enumerate(rules):
        if now[number] not in cells:
            free = [cell for cell in cells if cell not in now]
            now[number] = next_seat(now[number], rule, free)
    return tuple(now)


def walked(floor, sun, folk):
    """What course tells, of a floor, a sun and folk that are checked."""
    cells = shelters(floor, sun)
    rules = [rule for cell, rule in folk]
    now = tuple([cell for cell, rule in folk])
    place = 0
    beats = {}
    seats = []
    while (place, now) not in beats:
        beats[(place, now)] = len(seats)
        seats.append(now)
        now = moved(now, rules, cells[place])
        place = (place + 1) % len(sun)
    start = beats[(place, now)]
    return start, len(seats) - start, seats


def seated(floor, sun, folk, many):
    """The cells where folk sit behind so many beats."""
    check_scene(floor, sun, folk)
    check_beats(many)
    start, turn, seats = walked(floor, sun, folk)
    if many < start:
        return seats[many]
    return seats[start + (many - start) % turn]


def course(floor, sun, folk):
    """From when all comes again, after how many beats, and the seats ahead of each beat till then."""
    check_scene(floor, sun, folk)
    return walked(floor, sun, folk)


def restless(floor, sun, folk):
    """The numbers of those who never come to sit at one cell for ever, rising."""
    start, _, seats = course(floor, sun, folk)
    return [
        number for number in range(len(folk))
        if len({now[number] for now in seats[start:]}) > 1
    ]


def scorched(floor, sun, folk):
    """For each one how many of the first start beats, and of the next turn ones, leave it in the sun."""
    start, _, seats = course(floor, sun, folk)
    cells = shelters(floor, sun)
    # All comes again behind the last beat told, so folk sit then as they did ahead of beat start.
    behind = seats[1:] + [seats[start]]
    told = []
    for number in range(len(folk)):
        hot = [beat for beat, now in enumerate(behind) if now[number] not in cells[beat % len(sun)]]
        early = len([beat for beat in hot if beat < start])
        told.append((early, len(hot) - early))
    return told

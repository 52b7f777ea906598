"""How folk move beat by beat, and when all comes again."""

from shadeseats.checks import check_beats, check_scene
from shadeseats.floors import shaded


def without_posts(cells, floor):
    """Those of some cells where no post stands, in their order."""
    posts = [post[:2] for post in floor[2]]
    return [cell for cell in cells if cell not in posts]


def beat_of(floor, sign):
    """A beat by a sign: its cells in the shade, and those of them to which folk may move, both rising."""
    cells = shaded(floor, sign)
    return cells, without_posts(cells, floor)


def beats_of(floor, sun):
    """The beat of each place of the sun's text."""
    return [beat_of(floor, sign) for sign in sun]


def seats_of(folk):
    return tuple([cell for cell, rule in folk])


def rules_of(folk):
    return [rule for cell, rule in folk]


def steps_between(cell, other):
    return abs(cell[0] - other[0]) + abs(cell[1] - other[1])


def next_seat(cell, rule, free):
    """Where one goes who sits in the sun, if free are the cells to go to, rising."""
    if rule == "stay" or not free:
        return cell
    if rule == "first":
        return free[0]
    # Of several cells equally near min tells the one that comes first.
    return min(free, key=lambda other: steps_between(cell, other))


def moved(seats, rules, beat):
    """Where folk sit behind a beat if they sat at seats ahead of it, wherever that is."""
    cells, goals = beat
    now = list(seats)
    for number, rule in enumerate(rules):
        # A paper may tell of one who sits where a post stands: in the shade there, though no goal.
        if now[number] not in cells:
            free = [cell for cell in goals if cell not in now]
            now[number] = next_seat(now[number], rule, free)
    return tuple(now)


def in_sun(seats, beat):
    """The numbers of those whose seats are in the sun by the shade of a beat, rising, as a new list."""
    cells, _ = beat
    return [number for number, cell in enumerate(seats) if cell not in cells]


def walked(floor, sun, folk):
    """What course tells, of a floor, a sun and folk that are checked."""
    beats = beats_of(floor, sun)
    rules = rules_of(folk)
    now = seats_of(folk)
    place = 0
    first_beats = {}
    seats = []
    while (place, now) not in first_beats:
        first_beats[(place, now)] = len(seats)
        seats.append(now)
        now = moved(now, rules, beats[place])
        place = (place + 1) % len(sun)
    start = first_beats[(place, now)]
    return start, len(seats) - start, seats


def seats_behind(floor, sun, folk, many):
    """What seated tells, of things that are checked."""
    start, turn, seats = walked(floor, sun, folk)
    if many < start:
        return seats[many]
    return seats[start + (many - start) % turn]


def seated(floor, sun, folk, many):
    """The cells where folk sit behind so many beats."""
    check_scene(floor, sun, folk)
    check_beats(many)
    return seats_behind(floor, sun, folk, many)


def course(floor, sun, folk):
    """From when all comes again, after how many beats, and the seats ahead of each beat till then."""
    check_scene(floor, sun, folk)
    return walked(floor, sun, folk)


def restless(floor, sun, folk):
    """The numbers of those who never come to sit at one cell for ever, rising."""
    start, _, seats = course(floor, sun, folk)
    return [
        number for number in range(len(folk))
        if len({now[number] for now in seats[start:]}) > 1
    ]


def scorched(floor, sun, folk):
    """For each one how many of the first start beats, and of the next turn ones, leave it in the sun."""
    start, _, seats = course(floor, sun, folk)
    beats = beats_of(floor, sun)
    # All comes again behind the last beat told, so folk sit then as they did ahead of beat start.
    behind = seats[1:] + [seats[start]]
    hot = [in_sun(now, beats[beat % len(sun)]) for beat, now in enumerate(behind)]
    told = []
    for number in range(len(folk)):
        early = len([one for one in hot[:start] if number in one])
        late = len([one for one in hot[start:] if number in one])
        told.append((early, late))
    return told

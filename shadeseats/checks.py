"""Checks of what is handed in: each raises for the first thing that can't be."""

from shadeseats.errors import BadCount, BadFloor, BadFolk, BadPaper, BadRule, BadSun, BadTold

LONGEST_SIDE = 5
MOST_POSTS = 4
HIGHEST_POST = 4
MOST_AWNINGS = 8
SIGNS = "neswo"
MOST_SIGNS = 6
RULES = ("near", "first", "stay")
MOST_FOLK = 4
MOST_MORE_AWNINGS = 3


def is_whole(thing, low, high):
    """Whether thing is a whole number from low to high."""
    # Python counts True and False as whole numbers, the document does not.
    return isinstance(thing, int) and not isinstance(thing, bool) and low <= thing <= high


def is_tuple_of(thing, many):
    return isinstance(thing, tuple) and len(thing) == many


def is_cell(thing, floor):
    """Whether thing is a cell of a floor whose rows and columns are checked."""
    return (
        is_tuple_of(thing, 2)
        and is_whole(thing[0], 0, floor[0] - 1)
        and is_whole(thing[1], 0, floor[1] - 1)
    )


def is_post(thing, floor):
    return is_tuple_of(thing, 3) and is_cell(thing[:2], floor) and is_whole(thing[2], 1, HIGHEST_POST)


def is_one(thing, floor):
    """Whether thing is (cell, rule), as each of the folk is."""
    return is_tuple_of(thing, 2) and is_cell(thing[0], floor) and thing[1] in RULES


def are_seats(thing, floor, many):
    """Whether thing is a tuple of a cell of the floor for each of so many folk."""
    # By their form alone: what is told may hold a cell twice, or one where a post stands.
    return is_tuple_of(thing, many) and all([is_cell(cell, floor) for cell in thing])


def is_pair(thing, floor, sun, folk):
    """Whether thing is (beat, seats) as a paper has it."""
    return (
        is_tuple_of(thing, 2)
        and is_whole(thing[0], 0, len(sun) - 1)
        and are_seats(thing[1], floor, len(folk))
    )


def check_floor(floor):
    if not is_tuple_of(floor, 4):
        raise BadFloor(0, 0)
    if not is_whole(floor[0], 1, LONGEST_SIDE):
        raise BadFloor(0, 0)
    if not is_whole(floor[1], 1, LONGEST_SIDE):
        raise BadFloor(1, 0)
    check_posts(floor)
    check_awnings(floor)


def check_posts(floor):
    posts = floor[2]
    if not isinstance(posts, tuple):
        raise BadFloor(2, 0)
    taken = []
    for number, post in enumerate(posts):
        if number == MOST_POSTS or not is_post(post, floor) or post[:2] in taken:
            raise BadFloor(2, number)
        taken.append(post[:2])


def check_awnings(floor):
    awnings = floor[3]
    if not isinstance(awnings, tuple):
        raise BadFloor(3, 0)
    taken = []
    for number, cell in enumerate(awnings):
        if number == MOST_AWNINGS or not is_cell(cell, floor) or cell in taken:
            raise BadFloor(3, number)
        taken.append(cell)


def check_sun(sun):
    if not isinstance(sun, str) or len(sun) == 0:
        raise BadSun(0)
    for number, sign in enumerate(sun):
        if number == MOST_SIGNS or sign not in SIGNS:
            raise BadSun(number)


def check_folk(folk, floor):
    """Check folk by a floor that is checked itself."""
    if not isinstance(folk, tuple):
        raise BadFolk(0)
    # Nobody sits where a post stands, so a post takes its cell as one of the folk does.
    taken = [post[:2] for post in floor[2]]
    for number, one in enumerate(folk):
        if number == MOST_FOLK or not is_one(one, floor) or one[0] in taken:
            raise BadFolk(number)
        taken.append(one[0])


def check_scene(floor, sun, folk):
    """Check the three in the order in which they are handed in."""
    check_floor(floor)
    check_sun(sun)
    check_folk(folk, floor)


def check_beats(many):
    """Check a beat, or a count of beats."""
    if not is_whole(many, 0, 10 ** 18):
        raise BadCount("beats are a whole number from 0 to 10 ** 18")


def check_most(most):
    """Check how many awnings may be hung besides."""
    if not is_whole(most, 0, MOST_MORE_AWNINGS):
        raise BadCount("awnings to hang besides are a whole number from 0 to 3")


def check_rule(rule):
    if rule not in RULES:
        raise BadRule("a rule is near, first or stay")


def check_told(told, floor, folk):
    """Check where folk sat behind each beat, by a floor and folk that are checked themselves."""
    if not isinstance(told, tuple):
        raise BadTold(0)
    for number, seats in enumerate(told):
        if number == MOST_SIGNS or not are_seats(seats, floor, len(folk)):
            raise BadTold(number)


def check_paper(told, floor, sun, folk):
    """Check the pairs of a paper, by a floor, a sun and folk that are checked themselves."""
    if not isinstance(told, list):
        raise BadPaper(0)
    for number, pair in enumerate(told):
        if not is_pair(pair, floor, sun, folk):
            raise BadPaper(number)

"""What lies in the shade on a floor, and whether two floors are shaded alike."""

from shadeseats.checks import check_beats, check_floor, check_sun

# Rows count downwards and columns to the right, so a step up or to the left is negative.
STEPS = {"n": (-1, 0), "e": (0, 1), "s": (1, 0), "w": (0, -1), "o": (0, 0)}


def post_shade(posts, sign):
    """The cells on which the shade of posts falls, also those beyond the floor."""
    # A step overhead goes nowhere, and a post has no shade at its own foot.
    if sign == "o":
        return []
    down, right = STEPS[sign]
    return [
        (row + down * far, column + right * far)
        for row, column, high in posts
        for far in range(1, high + 1)
    ]


def awning_shade(awnings, sign):
    """The cells on which the shade of awnings falls, also those beyond the floor."""
    down, right = STEPS[sign]
    return [(row + down, column + right) for row, column in awnings]


def shaded(floor, sign):
    """The cells of a checked floor in the shade by one sign, rising, as a new list."""
    rows, columns, posts, awnings = floor
    cells = post_shade(posts, sign) + awning_shade(awnings, sign)
    return sorted({
        (row, column) for row, column in cells
        if 0 <= row < rows and 0 <= column < columns
    })


def shade(floor, sun, beat):
    """The cells in the shade at a beat, rising."""
    check_floor(floor)
    check_sun(sun)
    check_beats(beat)
    return shaded(floor, sun[beat % len(sun)])


def parted(floor, other, sun):
    """The first (beat, cell) that lies in the shade of one of both floors alone, or None."""
    check_floor(floor)
    check_floor(other)
    check_sun(sun)
    for beat, sign in enumerate(sun):
        alone = sorted(set(shaded(floor, sign)) ^ set(shaded(other, sign)))
        if alone:
            return beat, alone[0]
    return None

"""The refusals, each a ShadeError and none under another one."""


class ShadeError(ValueError):
    """Any refusal."""


class BadFloor(ShadeError):
    """The first thing of a floor that can't be: its part of the tuple, its number there."""

    def __init__(self, part, number):
        super().__init__(f"the floor can't be: part {part}, number {number}")
        self.part = part
        self.number = number


class BadSun(ShadeError):
    """The number of the first sign that can't be."""

    def __init__(self, number):
        super().__init__(f"the sun can't be: sign {number}")
        self.number = number


class BadFolk(ShadeError):
    """The number of the first of the folk that can't be."""

    def __init__(self, number):
        super().__init__(f"the folk can't be: number {number}")
        self.number = number


class BadTold(ShadeError):
    """The number of the first beat whose seats can't be."""

    def __init__(self, number):
        super().__init__(f"the seats told can't be: beat {number}")
        self.number = number


class BadPaper(ShadeError):
    """The number of the first pair of a paper that can't be."""

    def __init__(self, number):
        super().__init__(f"the paper can't be: number {number}")
        self.number = number


class BadDeed(ShadeError):
    """The number of the first deed that can't be."""

    def __init__(self, number):
        super().__init__(f"the deed can't be: number {number}")
        self.number = number


class BadCount(ShadeError):
    """A count that can't be."""


class BadRule(ShadeError):
    """A rule that can't be."""


class InSun(ShadeError):
    """The first beat behind which somebody sits in the sun."""

    def __init__(self, beat):
        super().__init__(f"somebody sits in the sun behind beat {beat}")
        self.beat = beat


class Halted(ShadeError):
    """The number of the deed that can't be done, and how many deeds stand."""

    def __init__(self, number, done):
        super().__init__(f"deed {number} can't be done, {done} stand")
        self.number = number
        self.done = done


class BadText(ShadeError):
    """The first row that can't be."""

    def __init__(self, row):
        super().__init__(f"the text can't be: row {row}")
        self.row = row

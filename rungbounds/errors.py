"""The errors that the program raises."""


class LadderError(ValueError):
    """The base class of all errors that the program raises."""


class BadNumber(LadderError):
    """A number that is not allowed where it stands."""

    def __init__(self, value):
        super().__init__(f"this number is not allowed here: {value}")
        self.value = value


class BadName(LadderError):
    """A name that does not follow the rule for names, or a word that is no deed."""

    def __init__(self, name):
        super().__init__(f"this is not a name that may stand here: {name!r}")
        self.name = name


class TakenName(LadderError):
    """A name that is in use already."""

    def __init__(self, name):
        super().__init__(f"this name is taken: {name!r}")
        self.name = name


class UnknownName(LadderError):
    """A name that nothing has."""

    def __init__(self, name):
        super().__init__(f"nothing has this name: {name!r}")
        self.name = name


class NoPlace(LadderError):
    """A number that is not the number of a place, an index or a node."""

    def __init__(self, place):
        super().__init__(f"there is no such place: {place}")
        self.place = place


class TooMany(LadderError):
    """More of something than the program takes."""

    def __init__(self, count):
        super().__init__(f"these are too many: {count}")
        self.count = count


class NoSite(LadderError):
    """Walls and links that leave no shape; the limits around the ring show it."""

    def __init__(self, ring):
        super().__init__(f"no shape keeps the limits around this ring: {ring}")
        self.ring = list(ring)


class NoShape(LadderError):
    """Trials that no shape reads well enough; the blames show it."""

    def __init__(self, blames):
        super().__init__(f"no shape is left, because of these blames: {blames}")
        self.blames = list(blames)


class OtherSite(LadderError):
    """Two Bounds that are not of the same Site object."""

    def __init__(self):
        super().__init__("these bounds are of different sites")


class BadState(LadderError):
    """A text that is not a state of the menu."""

    def __init__(self, state):
        super().__init__(f"this is not a state of the menu: {state!r}")
        self.state = state


class BadLine(LadderError):
    """A line of a text that is not written as it must be."""

    def __init__(self, line):
        super().__init__(f"this line cannot be read: {line}")
        self.line = line


class NothingToUndo(LadderError):
    """No deed is in effect."""

    def __init__(self):
        super().__init__("no deed is in effect")


class NothingToRedo(LadderError):
    """No deed was taken back."""

    def __init__(self):
        super().__init__("no deed was taken back")


class DeedFailed(LadderError):
    """A row of a run that raised an error."""

    def __init__(self, row):
        super().__init__(f"this row of the run failed: {row}")
        self.row = row

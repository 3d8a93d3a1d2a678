"""The refusals of the program, one class for each."""


class WayError(ValueError):
    pass


class NoWay(WayError):
    pass


class NoRow(WayError):
    pass


class NoDigits(WayError):

    def __init__(self, ring):
        # The words alone go to the base, which would otherwise keep the list that was handed in.
        WayError.__init__(self, "the walk from this number comes to a ring, not to 0")
        self.ring = list(ring)


class NoNote(WayError):
    pass

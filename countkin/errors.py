"""The refusals: one class for each, all of them straight under KinError."""


class KinError(ValueError):
    """Any refusal."""


class NoSize(KinError):
    """The size is not one that is told."""


class NoNumber(KinError):
    """The number is no thing's number, or no text's place."""


class NoThing(KinError):
    """What is handed in is not one of the family."""


class NoFamily(KinError):
    """The text is no family's word."""


class NoWay(KinError):
    """The text is no way's name."""


class Apart(KinError):
    """The ends of two chains, or of a line and a chain, are not the same."""


class NoMark(KinError):
    """The text is no mark of the family."""


class NoText(KinError):
    """The line is not of the form of its family's things."""


class Broken(KinError):
    """The names do not fit one behind the other; place is where, counted from 0."""

    def __init__(self, place):
        KinError.__init__(self, f"the chain breaks at place {place}")
        self.place = place

"""The refusals of a hall.

What is refused may be any thing, however large or deep, so no message shows it: it stands in the error's field.
"""


class HallError(ValueError):
    """Any refusal."""


class BadName(HallError):
    """What should be a name is none, or may not stand there again."""

    def __init__(self, name):
        super().__init__("this is no name that can stand here")
        self.name = name


class Known(HallError):
    """There is a kind of this name already."""

    def __init__(self, name):
        super().__init__("there is a kind of this name already")
        self.name = name


class NoKind(HallError):
    """There is no kind of this name."""

    def __init__(self, name):
        super().__init__("there is no kind of this name")
        self.name = name


class NoField(HallError):
    """There is no such field, or it is named twice."""

    def __init__(self, field):
        super().__init__("there is no such field here")
        self.field = field


class BadField(HallError):
    """This cannot be a field there."""

    def __init__(self, field):
        super().__init__("this cannot be a field here")
        self.field = field


class Fixed(HallError):
    """The kind `thing` stays as it is."""


class Ring(HallError):
    """A kind would stand below itself."""


class InUse(HallError):
    """The kind is still needed."""


class BadBody(HallError):
    """What should be a body is none."""


class NoWay(HallError):
    """The kind has no way of its own of this word."""


class NoThing(HallError):
    """There is no such thing in the hall."""


class BadValue(HallError):
    """What should be a value is none, or a thing that is not there."""


class NoName(HallError):
    """Nothing is held by this name."""

    def __init__(self, name):
        super().__init__("nothing is held by this name")
        self.name = name


class Same(HallError):
    """Both things are one."""


class NoRun(HallError):
    """There is no such run in the hall."""


class Ended(HallError):
    """The run has ended."""


class NoAsk(HallError):
    """The run does not halt ahead of an ask."""


class NoFrame(HallError):
    """So many ways have not begun in the run."""


class NoBack(HallError):
    """There is no deed to take back, or to do again."""


class NoText(HallError):
    """The text is the writing of nothing."""

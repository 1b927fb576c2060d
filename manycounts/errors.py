"""The refusals, each a class of its own straight under WebError."""


class WebError(ValueError):
    """Any refusal."""


class NoWeb(WebError):
    """The number of points is none that a web has."""


class TooMany(WebError):
    """There are, or would be, more than the bound allows."""


class NoTie(WebError):
    """Something in the list of ties is no tie; at is the number of the first such one."""

    def __init__(self, at):
        WebError.__init__(self, f"no tie at {at}")
        self.at = at


class NoSuch(WebError):
    """This is no number of a tie of the web."""


class NoText(WebError):
    """This is no text of the form that is read."""


class NoOrder(WebError):
    """This is no order of the ties of the web."""


class NoPoint(WebError):
    """This is no point of the web."""


class NoNumber(WebError):
    """This is no whole number, or too small a one."""


class NoPlaces(WebError):
    """These are no places for the points of the web."""


class NotApart(WebError):
    """The part hangs on the rest at another point too; point is the least such one."""

    def __init__(self, point):
        WebError.__init__(self, f"not apart at the point {point}")
        self.point = point


class NoDrawing(WebError):
    """These are no turns of a drawing."""


class NotJoined(WebError):
    """The web of the drawing is not joined."""


class NotPlane(WebError):
    """The drawing is none in the plane; lands is how many lands it has."""

    def __init__(self, lands):
        WebError.__init__(self, f"not plane, with {lands} lands")
        self.lands = lands


class NoRow(WebError):
    """This is no row that a desk answers."""


class NoName(WebError):
    """This is no name, or none by which a web is kept."""

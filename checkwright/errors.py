"""The errors of the package, all directly under CheckError."""


class CheckError(ValueError):
    """Any error of this package."""


class InvalidNumber(CheckError):
    """A whole number is needed here, or one within its bounds."""

    def __init__(self, value=None):
        self.value = value


class InvalidOrders(CheckError):
    """These are no orders."""

    def __init__(self, value=None):
        self.value = value


class InvalidMember(CheckError):
    """This is no member of the group."""

    def __init__(self, value=None):
        self.value = value


class InvalidTable(CheckError):
    """This is no table."""

    def __init__(self, value=None):
        self.value = value


class InvalidRow(CheckError):
    """This is no row."""

    def __init__(self, value=None):
        self.value = value


class InvalidSystem(CheckError):
    """This is no system."""

    def __init__(self, value=None):
        self.value = value


class InvalidCode(CheckError):
    """This is no number of the system."""

    def __init__(self, value=None):
        self.value = value


class InvalidSlip(CheckError):
    """This is no slip, or no kind of slip."""

    def __init__(self, value=None):
        self.value = value


class InvalidWish(CheckError):
    """This is no wish, or no list of wishes."""

    def __init__(self, value=None):
        self.value = value


class InvalidLinear(CheckError):
    """This is no linear system."""

    def __init__(self, value=None):
        self.value = value


class InvalidGroup(CheckError):
    """This is no group told by a table."""

    def __init__(self, value=None):
        self.value = value


class InvalidSquare(CheckError):
    """This is no square."""

    def __init__(self, value=None):
        self.value = value


class InvalidText(CheckError):
    """This is no text, or no alphabet."""

    def __init__(self, value=None):
        self.value = value


class InvalidDeed(CheckError):
    """This is no deed that can be done now."""

    def __init__(self, value=None):
        self.value = value


class Uneven(CheckError):
    """The row does not sum to nought."""

    def __init__(self, value=None):
        self.value = value


class TooMany(CheckError):
    """There are more than can be listed."""

    def __init__(self, value=None):
        self.value = value


class Stuck(CheckError):
    """What is asked for does not exist here."""

    def __init__(self, value=None):
        self.value = value


class NothingToUndo(CheckError):
    """No deed is left that could be taken back."""


class NothingToRedo(CheckError):
    """No deed is left that could be done again."""

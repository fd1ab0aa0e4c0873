"""All errors of the package; each tells in `value` what it was raised for, where it was raised for a value."""


class RoomError(ValueError):
    """A value that is not as it must be."""

    def __init__(self, value):
        self.value = value


class BadText(RoomError):
    """A value that is no text of the form that is asked for."""


class BadCount(RoomError):
    """A value that is no count."""


class BadRow(RoomError):
    """A value that is no Row, or no row of parts."""


class BadNumber(RoomError):
    """A value that is no number of the range that is asked for."""


class BadNet(RoomError):
    """A value that is no Net, or an argument from which none can be made."""


class BadRooms(RoomError):
    """A value that is no room, or no Rooms that go with the others."""


class Small(RoomError):
    """A store whose room is less than its least room."""


class BadGroup(RoomError):
    """A value that is no group of different processes."""


class NoKnot(RoomError):
    """A value that is no knot at the moment."""


class BadCourse(RoomError):
    """A value that is no Course, or no row of items."""


class NotRight(RoomError):
    """The index of the first item of a course that is not right."""


class BadPrices(RoomError):
    """A value that does not tell the prices of stores."""


class BadList(RoomError):
    """A value that is no list of Rooms of the stores of the net."""


class BadVector(RoomError):
    """A value that is no vector of the net."""


class NotSo(RoomError):
    """A value of which what is asked for does not hold."""


class BadLine(RoomError):
    """A value from which no Line can be made, or a line of none of the known forms."""


class BadPaper(RoomError):
    """A value that is no lined paper."""


class BadPolicy(RoomError):
    """A value that is no Policy."""


class NoBeat(RoomError):
    """The word of the first reason for which a net does not beat."""


class BadPace(RoomError):
    """A value that is no pace."""


class BadBeats(RoomError):
    """A value that is no Beats."""


class BadChange(RoomError):
    """A value that is no change, or none of this net."""


class BadSeeds(RoomError):
    """A value that does not tell what processes hold at first."""


class BadValue(RoomError):
    """A result of a fold that is no value."""


class BadEntries(RoomError):
    """A value that is no list of entries."""


class BadJournal(RoomError):
    """The index of the first line of a journal that is not right."""


class BadEvent(RoomError):
    """A value that is no event, or none that can be done."""


class BadEvents(RoomError):
    """A value that is no list of events."""


class BadPlan(RoomError):
    """The index of the first line of a plan that is not right."""


class BadQuestion(RoomError):
    """A value that is no Question."""


class NoEntry(KeyError):
    """A value that names nothing here."""

    def __init__(self, value):
        self.value = value


class NoProcess(NoEntry):
    """A value that is no process of the net."""


class NoChannel(NoEntry):
    """A value that is no channel of the net."""


class NoStore(NoEntry):
    """A value that is no store."""


class Refused(RuntimeError):
    """A step that can't be done: why, and for what the process waits."""

    def __init__(self, word, value):
        self.word = word
        self.value = value


class TooLong(RuntimeError):
    """More steps or moves than there may be."""


class TooMany(RuntimeError):
    """More rooms than can be told."""


class NotStraight(RuntimeError):
    """A net for which no lines tell the rooms."""

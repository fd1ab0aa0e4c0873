"""Consoles: nets told line by line, and what is asked of them."""

from leastrooms.answers import (
    told_corners, told_ends, told_enough, told_least, told_levels, told_ready, told_wait,
)
from leastrooms.edits import Told, net_of
from leastrooms.errors import BadLine, BadNet, BadText
from leastrooms.figures import figures_of
from leastrooms.moments import begin
from leastrooms.nets import MOST_FIRST
from leastrooms.rooms import LARGEST_ROOM, Rooms
from leastrooms.texts import parse_row
from leastrooms.words import LARGEST_NUMBER, is_among, is_between, is_word

# Lines of one word that ask for something.
ASKED = ("least", "corners", "enough", "ends", "levels", "can", "begin")


class Console:
    """Keeps what lines tell of a net, n and rooms, and a moment, and answers what lines ask."""

    def __init__(self):
        self._programs = {}
        self._levels = {}
        self._sharing = {}
        self._number = 0
        self._rooms = {}
        # None stands for the first one.
        self._moment = None

    def run(self, line):
        """The answer to a line."""
        words = line.split(" ") if isinstance(line, str) else [""]
        if self._keep(words, line):
            self._moment = None
            return "ok"
        if not _is_asking(words):
            raise BadLine(line)
        try:
            net = net_of(Told(self._programs, self._levels, self._sharing))
        except BadNet:
            return "no net"
        return self._answer(net, words)

    def _keep(self, words, line):
        """Keep what a line tells; False if it tells nothing."""
        if words[0] == "process":
            return self._keep_program(line[len("process "):])
        if words[0] == "first" and len(words) == 3:
            return self._keep_first(words[1], figures_of(words[2], len(str(MOST_FIRST))))
        if words[0] == "store" and len(words) > 3:
            return self._keep_store(words[1], words[2:])
        if words[0] == "number" and len(words) == 2:
            return self._keep_number(figures_of(words[1], len(str(LARGEST_NUMBER))))
        if words[0] == "room" and len(words) == 3:
            return self._keep_room(words[1], words[2])
        if words[0] == "forget" and len(words) == 2:
            return self._forget(words[1])
        return False

    def _keep_program(self, told):
        name, colon, text = told.partition(": ")
        if not is_word(name) or colon == "":
            return False
        try:
            row = parse_row(text)
        except BadText:
            return False
        self._programs[name] = row
        return True

    def _keep_first(self, channel, k):
        if not is_word(channel) or not is_between(k, 0, MOST_FIRST):
            return False
        self._levels[channel] = k
        return True

    def _keep_store(self, name, channels):
        if not all([is_word(word) for word in [name] + channels]) or len(set(channels)) < len(channels):
            return False
        self._sharing[name] = channels
        return True

    def _keep_number(self, n):
        if not is_between(n, 0, LARGEST_NUMBER):
            return False
        self._number = n
        return True

    def _keep_room(self, store, figures):
        room = None if figures == "-" else figures_of(figures, len(str(LARGEST_ROOM)))
        if not is_word(store) or (figures != "-" and not is_between(room, 0, LARGEST_ROOM)):
            return False
        self._rooms[store] = room
        return True

    def _forget(self, name):
        if not is_word(name):
            return False
        self._programs.pop(name, None)
        self._levels.pop(name, None)
        self._sharing.pop(name, None)
        self._rooms.pop(name, None)
        return True

    def _answer(self, net, words):
        """The answer to a line that asks for something of the net."""
        n = self._number
        rooms = self._rooms_of(net)
        if words[0] == "least":
            return told_least(net, n)
        if words[0] == "corners":
            return told_corners(net, n)
        if words[0] == "enough":
            return told_enough(net, n, rooms)
        if words[0] == "ends":
            return told_ends(net, n, rooms)
        if self._moment is None or words[0] == "begin":
            self._moment = begin(net, n, rooms)
        if words[0] == "step":
            return self._step(words[1])
        if words[0] == "levels":
            return told_levels(self._moment)
        return told_ready(self._moment) if words[0] == "can" else "ok"

    def _step(self, name):
        """Do a step of a process, or tell why there is none."""
        if name not in self._moment.net.processes:
            return f"no {name}"
        reason = self._moment.wait(name)
        if reason is not None:
            return told_wait(reason[0], reason[1])
        self._moment = self._moment >> name
        return "ok"

    def _rooms_of(self, net):
        """The rooms that are told, and the least ones where none are told, or too small ones."""
        least = {store: net.least_room(store) for store in net.stores}
        told = {store: self._rooms[store] for store in net.stores if store in self._rooms}
        return Rooms(least) | Rooms({**least, **told})


def _is_asking(words):
    """Whether a line asks for something of the net."""
    if words[0] == "step":
        return len(words) == 2 and is_word(words[1])
    return len(words) == 1 and is_among(words[0], ASKED)

"""Moments: how far each process is, and how many messages each channel has."""

from leastrooms.errors import Refused
from leastrooms.nets import check_channel, check_net, check_process
from leastrooms.rooms import check_rooms
from leastrooms.stops import level_behind, next_spot, place_at, stops_of, wait_at
from leastrooms.words import check_number


class Scene:
    """What stays the same in all moments of a net, n and rooms."""

    def __init__(self, net, n, rooms, stops):
        self.net = net
        self.n = n
        self.rooms = rooms
        self.limits = dict(rooms.pairs())
        self.homes = {channel: net.store_of(channel) for channel in net.channels}
        self.stops = stops


class Moment:
    """How far each process is, and how many messages each channel has; a moment never changes.

    A spot of a process is the index of its stop and the rounds done there.
    """

    def __init__(self, scene, spots, levels):
        self.net = scene.net
        self.n = scene.n
        self.rooms = scene.rooms
        self._scene = scene
        self._spots = spots
        self._levels = levels

    def level(self, channel):
        """How many messages a channel has."""
        check_channel(self.net, channel)
        return self._levels[channel]

    def level_in(self, store):
        """How many messages the channels of a store have together."""
        return sum([self._levels[channel] for channel in self.net.channels_in(store)])

    def place(self, process):
        """Where a process is in its program; () if it has ended."""
        check_process(self.net, process)
        _, done = self._spots[process]
        return place_at(_stop_of(self._scene, self._spots, process), done)

    def next_part(self, process):
        """The part that a process does next, None if it has ended."""
        check_process(self.net, process)
        return _stop_of(self._scene, self._spots, process).part

    def wait(self, process):
        """What a process waits for, None if it can do its step."""
        check_process(self.net, process)
        return wait_at(_stop_of(self._scene, self._spots, process), self._levels, self._scene.limits)

    def can(self):
        """The processes that can do a step, ascending."""
        return _ready(self._scene, self._spots, self._levels, self.net.processes)

    def __rshift__(self, other):
        reason = self.wait(other)
        if reason is not None:
            raise Refused(reason[0], reason[1])
        stop = _stop_of(self._scene, self._spots, other)
        _, done = self._spots[other]
        levels = dict(self._levels)
        if stop.channel is not None:
            levels[stop.channel] = level_behind(stop, levels[stop.channel])
        return Moment(self._scene, {**self._spots, other: next_spot(stop, done)}, levels)

    def __eq__(self, other):
        if not isinstance(other, Moment) or self.net != other.net:
            return False
        if self.n != other.n or self.rooms != other.rooms:
            return False
        return self._spots == other._spots and self._levels == other._levels


class Play:
    """A moment that goes on: unlike a Moment it changes with each step, for many steps at little cost."""

    def __init__(self, moment):
        self._scene, self._spots, self._levels = opened(moment)
        # Those that are not among these can do no step till another one does something for them.
        self._awake = list(moment.net.processes)

    def sweep(self):
        """Do a step of each process that can do one, and return these processes, ascending."""
        # None of these steps makes another one of them impossible.
        ready = _ready(self._scene, self._spots, self._levels, self._awake)
        awake = {}
        for process in ready:
            awake[process] = True
            peer = self._step(process)
            if peer is not None:
                awake[peer] = True
        self._awake = sorted(awake)
        return ready

    def now(self):
        """The Moment as which all is at present."""
        return Moment(self._scene, dict(self._spots), dict(self._levels))

    def _step(self, process):
        """Do the step of a process, and return the one at the other end of its channel, None if there is none."""
        index, done = self._spots[process]
        stop = self._scene.stops[process][index]
        self._spots[process] = next_spot(stop, done)
        if stop.channel is not None:
            self._levels[stop.channel] = level_behind(stop, self._levels[stop.channel])
        return stop.peer


def begin(net, n, rooms):
    """The first Moment of a net at n with rooms."""
    check_net(net)
    check_number(n)
    check_rooms(net, rooms)
    stops = {process: stops_of(net, process, n) for process in net.processes}
    scene = Scene(net, n, rooms, stops)
    spots = {process: _first_spot(stops[process]) for process in net.processes}
    return Moment(scene, spots, {channel: net.first(channel) for channel in net.channels})


def opened(moment):
    """What a moment holds: its Scene, and copies of where all processes are and of all levels."""
    return moment._scene, dict(moment._spots), dict(moment._levels)


def with_rooms(moment, rooms):
    """The same moment, but with other rooms of the net."""
    scene = moment._scene
    return Moment(Scene(scene.net, scene.n, rooms, scene.stops), dict(moment._spots), dict(moment._levels))


def _first_spot(stops):
    return (0, (0,) * len(stops[0].totals))


def _stop_of(scene, spots, process):
    index, _ = spots[process]
    return scene.stops[process][index]


def _ready(scene, spots, levels, processes):
    """Those of some processes that can do a step, in the same order."""
    return [
        process for process in processes
        if wait_at(_stop_of(scene, spots, process), levels, scene.limits) is None
    ]

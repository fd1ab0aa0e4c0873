"""Moments: how far each process is, and how many messages each channel has."""

from leastrooms.errors import Refused
from leastrooms.nets import check_channel, check_net, check_process
from leastrooms.rooms import check_rooms
from leastrooms.stops import level_behind, next_spot, place_at, stops_along, stops_of, wait_at
from leastrooms.words import check_number


class Scene:
    """What stays the same in all moments of a net, n and rooms."""

    def __init__(self, net, n, rooms, limits, stops):
        self.net = net
        self.n = n
        # None where the limits of the stores are enough.
        self.rooms = rooms
        self.limits = limits
        self.stops = stops


class Moment:
    """How far each process is, and how many messages each channel has; a moment never changes.

    A spot of a process is the index of its stop and the rounds done there.
    """

    def __init__(self, scene, spots, levels):
        self.net = scene.net
        self.n = scene.n
        self.rooms = scene.rooms
        self._scene = scene
        self._spots = spots
        self._levels = levels

    def level(self, channel):
        """How many messages a channel has."""
        check_channel(self.net, channel)
        return self._levels[channel]

    def level_in(self, store):
        """How many messages the channels of a store have together."""
        return sum([self._levels[channel] for channel in self.net.channels_in(store)])

    def place(self, process):
        """Where a process is in its program; () if it has ended."""
        check_process(self.net, process)
        _, done = self._spots[process]
        return place_at(_stop_of(self._scene, self._spots, process), done)

    def next_part(self, process):
        """The part that a process does next, None if it has ended."""
        check_process(self.net, process)
        return _stop_of(self._scene, self._spots, process).part

    def wait(self, process):
        """What a process waits for, None if it can do its step."""
        check_process(self.net, process)
        return wait_at(_stop_of(self._scene, self._spots, process), self._levels, self._scene.limits)

    def can(self):
        """The processes that can do a step, ascending."""
        return _ready(self._scene, self._spots, self._levels, self.net.processes)

    def __rshift__(self, other):
        reason = self.wait(other)
        if reason is not None:
            raise Refused(reason[0], reason[1])
        stop = _stop_of(self._scene, self._spots, other)
        _, done = self._spots[other]
        levels = dict(self._levels)
        if stop.channel is not None:
            levels[stop.channel] = level_behind(stop, levels[stop.channel])
        return Moment(self._scene, {**self._spots, other: next_spot(stop, done)}, levels)

    def __eq__(self, other):
        if not isinstance(other, Moment) or self.net != other.net:
            return False
        if self.n != other.n or self.rooms != other.rooms:
            return False
        return self._spots == other._spots and self._levels == other._levels


class Play:
    """A moment that goes on: unlike a Moment it changes with each step, for many steps at little cost."""

    def __init__(self, moment):
        self._scene, self._spots, self._levels = opened(moment)
        # Those that are not among these can do no step till another one does something for them.
        self._awake = list(moment.net.processes)

    def sweep(self):
        """Do a step of each process that can do one, and return these processes, ascending."""
        # None of these steps makes another one of them impossible.
        ready = _ready(self._scene, self._spots, self._levels, self._awake)
        awake = {}
        for process in ready:
            awake[process] = True
            peer = self._step(process)
            if peer is not None:
                awake[peer] = True
        self._awake = sorted(awake)
        return ready

    def now(self):
        """The Moment as which all is at present."""
        return Moment(self._scene, dict(self._spots), dict(self._levels))

    def _step(self, process):
        """Do the step of a process, and return the one at the other end of its channel, None if there is none."""
        index, done = self._spots[process]
        stop = self._scene.stops[process][index]
        self._spots[process] = next_spot(stop, done)
        if stop.channel is not None:
            self._levels[stop.channel] = level_behind(stop, self._levels[stop.channel])
        return stop.peer


class Grounds:
    """The first Moments of a net without limits, each made once for all that begins there."""

    def __init__(self, net):
        self.net = net
        self._kept = {}

    def at(self, n):
        """The first Moment at n."""
        if n not in self._kept:
            self._kept[n] = _unlimited(self.net, n, _all_stops(self.net, n), _first_levels(self.net))
        return self._kept[n]


def begin(net, n, rooms):
    """The first Moment of a net at n with rooms."""
    check_net(net)
    check_number(n)
    check_rooms(net, rooms)
    return _first_moment(Scene(net, n, rooms, dict(rooms.pairs()), _all_stops(net, n)), _first_levels(net))


def begin_along(net, n, programs, levels):
    """The first Moment of a net without limits, with other programs and so many messages in the channels."""
    return _unlimited(net, n, {process: stops_along(net, programs[process], n) for process in net.processes}, levels)


def opened(moment):
    """What a moment holds: its Scene, and copies of where all processes are and of all levels."""
    return moment._scene, dict(moment._spots), dict(moment._levels)


def waits_at(moment):
    """A dict from all processes to what they wait for, None for those that can do a step."""
    scene = moment._scene
    return {
        process: wait_at(scene.stops[process][index], moment._levels, scene.limits)
        for process, (index, _) in moment._spots.items()
    }


def with_rooms(moment, rooms):
    """The same moment, but with other rooms of the net."""
    scene = moment._scene
    return Moment(Scene(scene.net, scene.n, rooms, dict(rooms.pairs()), scene.stops), moment._spots, moment._levels)


def with_limits(moment, limits):
    """The same moment, but with other limits of the stores, a dict; it tells no rooms."""
    scene = moment._scene
    return Moment(Scene(scene.net, scene.n, None, limits, scene.stops), moment._spots, moment._levels)


def _all_stops(net, n):
    return {process: stops_of(net, process, n) for process in net.processes}


def _first_levels(net):
    return {channel: net.first(channel) for channel in net.channels}


def _unlimited(net, n, stops, levels):
    """The first Moment with these stops and levels, without limits."""
    return _first_moment(Scene(net, n, None, {store: None for store in net.stores}, stops), levels)


def _first_moment(scene, levels):
    return Moment(scene, {process: _first_spot(scene.stops[process]) for process in scene.net.processes}, levels)


def _first_spot(stops):
    return (0, (0,) * len(stops[0].totals))


def _stop_of(scene, spots, process):
    index, _ = spots[process]
    return scene.stops[process][index]


def _ready(scene, spots, levels, processes):
    """Those of some processes that can do a step, in the same order."""
    return [
        process for process in processes
        if wait_at(_stop_of(scene, spots, process), levels, scene.limits) is None
    ]

"""Tracks: moments that go on by steps and by whole items, and what these change."""

from leastrooms.moments import Moment, opened
from leastrooms.stops import level_behind, next_spot, wait_at


class Track:
    """A moment that goes on: unlike a Moment it changes, with each step and with many goes at once.

    Slacks tell how near steps come to being impossible: a dict of keys and least numbers, none of
    which may be below 0. ("low", channel): the level behind a take; ("rest", store): the room left
    behind a send. ("fill", store) has no bound: the level behind a send with its sign turned, in a
    store without limit.

    Where rooms grow, too: ("dry", channel) and ("over", store): how surely processes wait for messages
    and for room; ("even", store): growth that may not become another one; ("top", store): how far a room
    is from the greatest one; ("rank", ..): how surely a store is picked, not another one.
    """

    def __init__(self, moment):
        self.scene, self.spots, self.levels = opened(moment)

    def stop_of(self, process):
        """The stop at which a process is."""
        index, _ = self.spots[process]
        return self.scene.stops[process][index]

    def reason_of(self, process):
        """What a process waits for, None if it can do its step."""
        return wait_at(self.stop_of(process), self.levels, self.scene.limits)

    def step(self, process):
        """Do the step of a process, and return its slacks."""
        _, done = self.spots[process]
        stop = self.stop_of(process)
        self.spots[process] = next_spot(stop, done)
        if stop.channel is None:
            return {}
        level = level_behind(stop, self.levels[stop.channel])
        self.levels[stop.channel] = level
        if stop.word == "take":
            return {("low", stop.channel): level}
        limit = self.scene.limits[stop.store]
        fill = sum([self.levels[channel] for channel in stop.sharing])
        return {("fill", stop.store): -fill} if limit is None else {("rest", stop.store): limit - fill}

    def marked(self):
        """Where all processes are, and all levels: copies."""
        return dict(self.spots), dict(self.levels)

    def shift(self, change, goes):
        """Do what changes so much so many times more."""
        for process, (depth, more) in change.gains.items():
            index, done = self.spots[process]
            self.spots[process] = (index, done[:depth] + (done[depth] + goes * more,) + done[depth + 1:])
        for channel, drift in change.drifts.items():
            self.levels[channel] = self.levels[channel] + goes * drift

    def now(self):
        """The Moment as which all is at present."""
        spots, levels = self.marked()
        return Moment(self.scene, spots, levels)


class Change:
    """What one go changes: numbers of rounds, levels of channels, and the levels of whole stores."""

    def __init__(self, gains, drifts, fills):
        # gains: for each process that moves the depth of a loop and how many rounds more are done.
        self.gains = gains
        self.drifts = drifts
        self.fills = fills
        # By how much rooms grow.
        self.growth = {}

    def is_like(self, other):
        """Whether another one changes all rounds and levels by the same."""
        return self.gains == other.gains and self.drifts == other.drifts

    def drift_of(self, key):
        """By how much a slack grows with each go."""
        word, name = key
        if word in ("low", "dry"):
            drift = self.drifts.get(name, 0)
            return drift if word == "low" else -drift
        if word == "rank":
            return sum([self._rank_drift(part) for part in name])
        fill = self.fills.get(name, 0)
        growth = self.growth.get(name, 0)
        if word == "rest":
            return growth - fill
        if word == "over":
            return fill - growth
        if word == "even":
            return -abs(growth - fill)
        return -fill if word == "fill" else -growth

    def _rank_drift(self, part):
        store, by_room, by_fill = part
        return by_room * self.growth.get(store, 0) + by_fill * self.fills.get(store, 0)


def change_since(track, mark, processes):
    """The Change since a mark; None if one of these processes is elsewhere but for one greater number of rounds."""
    spots, levels = mark
    gains = {}
    for process in processes:
        spot = spots[process]
        behind = track.spots[process]
        if spot != behind:
            gain = _gain_between(spot, behind)
            if gain is None:
                return None
            gains[process] = gain
    drifts = {}
    fills = {}
    for channel, level in levels.items():
        drift = track.levels[channel] - level
        if drift != 0:
            store = track.scene.homes[channel]
            drifts[channel] = drift
            fills[store] = fills.get(store, 0) + drift
    return Change(gains, drifts, fills)


def most_goes(track, mark, change, slacks):
    """How often what is done since a mark can be done in all, None if there is no bound."""
    spots, _ = mark
    bounds = []
    for process, (depth, more) in change.gains.items():
        _, done = spots[process]
        total = track.stop_of(process).totals[depth]
        if total is not None:
            bounds.append((total - 1 - done[depth]) // more)
    for key, left in slacks.items():
        drift = change.drift_of(key)
        if drift < 0 and key[0] != "fill":
            bounds.append(1 + left // -drift)
    return min(bounds) if bounds else None


def is_right_without_end(track, change):
    """Whether what changes so much from go to go, and has been done once, can go on for ever."""
    if not change.gains:
        return False
    if not all([_is_of_forever(track, process, change) for process in change.gains]):
        return False
    if not all([_may_drift(track, channel, change) for channel in change.drifts]):
        return False
    others = [process for process in track.spots if process not in change.gains]
    return all([track.reason_of(process) is not None for process in others])


def merged(one, other):
    """The lesser of two slacks for each key."""
    both = dict(one)
    for key, left in other.items():
        both[key] = min(left, both.get(key, left))
    return both


def stretched(slacks, change, goes):
    """The slacks of so many goes; those of the first one are given."""
    # They grow by the same with each go, so the first or the last go has the least.
    return {key: left + min(0, (goes - 1) * change.drift_of(key)) for key, left in slacks.items()}


def _gain_between(spot, behind):
    """The depth of the one loop of which more rounds are done, and how many more; None if more than that is other."""
    index, done = spot
    further, now = behind
    if index != further:
        return None
    depth = 0
    while done[depth] == now[depth]:
        depth = depth + 1
    if done[depth] > now[depth] or done[depth + 1:] != now[depth + 1:]:
        return None
    return depth, now[depth] - done[depth]


def _is_of_forever(track, process, change):
    depth, _ = change.gains[process]
    return track.stop_of(process).totals[depth] is None


def _may_drift(track, channel, change):
    """Whether the level of a channel may go on changing so for ever."""
    if change.drifts[channel] < 0 or track.scene.limits[track.scene.homes[channel]] is not None:
        return False
    taker = track.scene.net.taker(channel)
    return taker is None or taker in change.gains or track.reason_of(taker) != ("empty", channel)

"""Tracks: moments that go on by steps and by whole items, and what these change."""

from leastrooms.moments import Moment, opened
from leastrooms.stops import fill_at, next_spot, wait_at


class Track:
    """A moment that goes on: unlike a Moment it changes, with each step and with many goes at once.

    Slacks tell how near steps come to being impossible: a dict of keys and least numbers, none of
    which may be below 0. ("low", channel): the level behind a take; ("rest", store): the room left
    behind a send. ("fill", store) has no bound: the level behind a send with its sign turned, in a
    store without limit.

    Where rooms grow, too: ("dry", channel) and ("over", store): how surely processes wait for messages
    and for room; ("even", store): growth that may not become another one; ("top", store): how far a room
    is from the greatest one; ("rank", ..): how surely a store is picked, not another one.
    """

    def __init__(self, moment):
        self.scene, self.spots, self.levels = opened(moment)
        self.stops = self.scene.stops
        self.limits = self.scene.limits

    def stop_of(self, process):
        """The stop at which a process is."""
        return self.stops[process][self.spots[process][0]]

    def reason_of(self, process):
        """What a process waits for, None if it can do its step."""
        return wait_at(self.stop_of(process), self.levels, self.limits)

    def step(self, process):
        """Do the step of a process, and return its slacks."""
        index, done = self.spots[process]
        stop = self.stops[process][index]
        self.spots[process] = next_spot(stop, done)
        return self._slacks_behind(stop, stop.k) if stop.k > 0 else {}

    def leap(self, process, stop, done, goes):
        """Do a step, alone in its loop, so many times without leaving it, and return the slacks."""
        self.spots[process] = (self.spots[process][0], done[:stop.alone] + (done[stop.alone] + goes,))
        return self._slacks_behind(stop, goes * stop.k) if stop.k > 0 else {}

    def slacks_of_waiting(self, process):
        """What keeps a process waiting, if it does."""
        stop = self.stop_of(process)
        if stop.word == "take":
            left = stop.k - 1 - self.levels[stop.channel]
            return {("dry", stop.channel): left} if left >= 0 else {}
        limit = self.limits[stop.store] if stop.word == "send" else None
        left = -1 if limit is None else fill_at(stop, self.levels) + stop.k - 1 - limit
        return {("over", stop.store): left} if left >= 0 else {}

    def _slacks_behind(self, stop, many):
        """Move so many messages at a stop, and return the slacks."""
        channel = stop.channel
        if stop.word == "take":
            level = self.levels[channel] - many
            self.levels[channel] = level
            return {stop.low_key: level}
        self.levels[channel] = self.levels[channel] + many
        limit = self.limits[stop.store]
        fill = fill_at(stop, self.levels)
        return {stop.fill_key: -fill} if limit is None else {stop.rest_key: limit - fill}

    def marked(self):
        """Where all processes are, and all levels: copies."""
        return dict(self.spots), dict(self.levels)

    def shift(self, change, goes):
        """Do what changes so much so many times more."""
        for process, (depth, more) in change.gains.items():
            index, done = self.spots[process]
            self.spots[process] = (index, done[:depth] + (done[depth] + goes * more,) + done[depth + 1:])
        for channel, drift in change.drifts.items():
            self.levels[channel] = self.levels[channel] + goes * drift

    def now(self):
        """The Moment as which all is at present."""
        spots, levels = self.marked()
        return Moment(self.scene, spots, levels)


class Change:
    """What one go changes: numbers of rounds, levels of channels, and the levels of whole stores."""

    def __init__(self, gains, drifts, fills):
        # gains: for each process that moves the depth of a loop and how many rounds more are done.
        self.gains = gains
        self.drifts = drifts
        self.fills = fills
        # By how much rooms grow.
        self.growth = {}

    def is_like(self, other):
        """Whether another one changes all rounds and levels by the same."""
        return self.gains == other.gains and self.drifts == other.drifts

    def drift_of(self, key):
        """By how much a slack grows with each go."""
        word, name = key
        if word == "low":
            return self.drifts.get(name, 0)
        if word == "fill":
            return -self.fills.get(name, 0)
        if word == "rest":
            return self.growth.get(name, 0) - self.fills.get(name, 0)
        if word == "dry":
            return -self.drifts.get(name, 0)
        if word == "over":
            return self.fills.get(name, 0) - self.growth.get(name, 0)
        if word == "even":
            return -abs(self.growth.get(name, 0) - self.fills.get(name, 0))
        if word == "top":
            return -self.growth.get(name, 0)
        return sum([self._rank_drift(part) for part in name])

    def _rank_drift(self, part):
        store, by_room, by_fill = part
        return by_room * self.growth.get(store, 0) + by_fill * self.fills.get(store, 0)


def change_since(track, spots, levels, processes):
    """The Change since an earlier moment; None if a process is elsewhere but for more rounds of one loop."""
    gains = gains_since(track, spots, processes)
    return None if gains is None else change_by(track, gains, levels)


def gains_since(track, spots, processes):
    """For each of these processes that has moved the depth of a loop and how many rounds more are done.

    None if one of them is elsewhere but for one greater number of rounds.
    """
    gains = {}
    for process in processes:
        spot = spots[process]
        behind = track.spots[process]
        if spot != behind:
            gain = _gain_between(spot, behind)
            if gain is None:
                return None
            gains[process] = gain
    return gains


def change_by(track, gains, levels):
    """The Change with these gains since levels were so."""
    drifts = {}
    fills = {}
    for channel, level in levels.items():
        drift = track.levels[channel] - level
        if drift != 0:
            store = track.scene.net.store_of(channel)
            drifts[channel] = drift
            fills[store] = fills.get(store, 0) + drift
    return Change(gains, drifts, fills)


def goes_in_loops(track, spots, gains):
    """How often what is done since an earlier moment stays within its loops, None if there is no bound."""
    least = None
    for process, (depth, more) in gains.items():
        index, done = spots[process]
        total = track.stops[process][index].totals[depth]
        if total is not None:
            least = lesser(least, (total - 1 - done[depth]) // more)
    return least


def goes_in_slacks(change, slacks):
    """How often what changes so much stays possible, None if there is no bound; the slacks are of one go."""
    least = None
    for key, left in slacks.items():
        drift = change.drift_of(key)
        if drift < 0 and key[0] != "fill":
            least = lesser(least, 1 + left // -drift)
    return least


def most_goes(track, spots, change, slacks):
    """How often what is done since an earlier moment can be done in all, None if there is no bound."""
    return lesser(goes_in_loops(track, spots, change.gains), goes_in_slacks(change, slacks))


def lesser(one, other):
    """The lesser of two numbers; None stands for no bound."""
    if one is None or other is None:
        return other if one is None else one
    return min(one, other)


def is_right_without_end(track, change):
    """Whether what changes so much from go to go, and has been done once, can go on for ever."""
    if not change.gains:
        return False
    if not all([_is_of_forever(track, process, change) for process in change.gains]):
        return False
    if not all([_may_drift(track, channel, change) for channel in change.drifts]):
        return False
    others = [process for process in track.spots if process not in change.gains]
    return all([track.reason_of(process) is not None for process in others])


def merged(all_slacks):
    """The least of some slacks for each key."""
    least = {}
    for slacks in all_slacks:
        for key, left in slacks.items():
            if key not in least or left < least[key]:
                least[key] = left
    return least


def stretched(slacks, change, goes):
    """The slacks of so many goes; those of the first one are given."""
    # They grow by the same with each go, so the first or the last go has the least.
    return {key: left + min(0, (goes - 1) * change.drift_of(key)) for key, left in slacks.items()}


def _gain_between(spot, behind):
    """The depth of the one loop of which more rounds are done, and how many more; None if more than that is other."""
    index, done = spot
    further, now = behind
    if index != further:
        return None
    depth = 0
    while done[depth] == now[depth]:
        depth = depth + 1
    if done[depth] > now[depth] or done[depth + 1:] != now[depth + 1:]:
        return None
    return depth, now[depth] - done[depth]


def _is_of_forever(track, process, change):
    depth, _ = change.gains[process]
    return track.stop_of(process).totals[depth] is None


def _may_drift(track, channel, change):
    """Whether the level of a channel may go on changing so for ever."""
    if change.drifts[channel] < 0 or track.limits[track.scene.net.store_of(channel)] is not None:
        return False
    taker = track.scene.net.taker(channel)
    return taker is None or taker in change.gains or track.reason_of(taker) != ("empty", channel)

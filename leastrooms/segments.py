"""Segments: what comes one behind another in a net, with all channels empty in between.

Rooms are enough for a net just if they are enough for each segment: whatever leads to the end with
them leads through the moment between two segments, if it is done in another order.
"""

from leastrooms.counts import rounds
from leastrooms.rows import inner_parts, is_round


class Segment:
    """The parts of each process that move messages, and how many messages the channels have ahead of them.

    must_end: whether the segment tells something only if all processes come to their ends in it.
    """

    def __init__(self, programs, levels, must_end):
        self.programs = programs
        self.levels = levels
        self.must_end = must_end


class Moving:
    """A part of a program that moves messages: how many of each channel, those that are taken below 0.

    Of a forever this is what one round moves.
    """

    def __init__(self, part, moved):
        self.part = part
        self.moved = moved
        self.is_endless = part[0] == "forever"


def segments_of(net, n):
    """The segments of a net at n, as short as can be seen; one that is repeated is told once."""
    programs = {process: net.row(process).parts for process in net.processes}
    levels = {channel: net.first(channel) for channel in net.channels}
    segments = _cut(net, n, programs, levels)
    if len(segments) == 1:
        whole = {process: tuple([moving.part for moving in _moving_in(programs[process], n)]) for process in programs}
        only = segments[0]
        only.must_end = only.programs != whole
    return segments


def _cut(net, n, programs, levels):
    """The segments of programs, one behind another."""
    left = {process: _moving_in(programs[process], n) for process in programs}
    segments = []
    while any([left[process] for process in left]):
        counts = _least_cut(net, left, levels)
        if counts is None:
            return segments + _rest(net, n, left, levels)
        taken = {process: left[process][:counts[process]] for process in left}
        segments = segments + _within(net, n, taken, levels)
        left = {process: left[process][counts[process]:] for process in left}
        levels = {channel: 0 for channel in levels}
    return segments


def _moving_in(parts, n):
    """The parts that move messages at n."""
    found = [Moving(part, _moved_by(part, n)) for part in parts]
    return [moving for moving in found if moving.moved]


def _moved_by(part, n):
    """How many messages of each channel a part moves."""
    if part[0] == "work":
        return {}
    if not is_round(part):
        return {part[1]: part[2] if part[0] == "send" else -part[2]}
    times = rounds(part[1], n) if part[0] == "loop" else 1
    return _sum_moved([_moved_by(inner, n) for inner in inner_parts(part)], times) if times > 0 else {}


def _sum_moved(all_moved, times):
    """All of these together, so many times."""
    sums = {}
    for moved in all_moved:
        for channel, many in moved.items():
            sums[channel] = sums.get(channel, 0) + times * many
    return sums


def _least_cut(net, left, levels):
    """How many parts of each process come ahead of the next moment with empty channels; None if none is found."""
    nothing = {process: 0 for process in left}
    if any([levels[channel] > 0 for channel in levels]):
        return _balanced(net, left, levels, nothing)
    for process in left:
        if left[process] and not left[process][0].is_endless:
            counts = _balanced(net, left, levels, {**nothing, process: 1})
            if counts is not None:
                return counts
    return None


def _balanced(net, left, levels, counts):
    """The least numbers of parts, from these on, that leave no message; None if there are none."""
    sums = dict(levels)
    for process in left:
        for moving in left[process][:counts[process]]:
            sums = _sum_moved([sums, moving.moved], 1)
    uneven = [channel for channel in sums if sums[channel] != 0]
    while uneven:
        # Who took less than there is must go on, or else who has sent less.
        process = net.taker(uneven[0]) if sums[uneven[0]] > 0 else net.sender(uneven[0])
        if process is None or counts[process] == len(left[process]) or left[process][counts[process]].is_endless:
            return None
        sums = _sum_moved([sums, left[process][counts[process]].moved], 1)
        counts = {**counts, process: counts[process] + 1}
        uneven = [channel for channel in sums if sums[channel] != 0]
    return counts


def _within(net, n, taken, levels):
    """The segments of a segment: of one round, if it is the same again and again."""
    single = _single_rounds(taken, levels, "loop")
    if single and len(set([rounds(part[1], n) for part in single.values()])) == 1:
        return _cut(net, n, _bodies_of(taken, single), levels)
    return [_segment_of(taken, levels, True)]


def _rest(net, n, left, levels):
    """The segments of what has no end, or leaves messages: of one round, if it is the same for ever."""
    single = _single_rounds(left, levels, "forever")
    sums = _sum_moved([left[process][0].moved for process in single], 1)
    if single and not any([sums[channel] != 0 for channel in sums]):
        return _cut(net, n, _bodies_of(left, single), levels)
    return [_segment_of(left, levels, False)]


def _single_rounds(taken, levels, word):
    """The part of each process that has some, if each one is a single part of this kind, and there are no messages."""
    if any([levels[channel] > 0 for channel in levels]):
        return {}
    single = {process: taken[process][0].part for process in taken if taken[process]}
    if not all([len(taken[process]) == 1 and single[process][0] == word for process in single]):
        return {}
    return single


def _bodies_of(taken, single):
    return {process: inner_parts(single[process]) if process in single else () for process in taken}


def _segment_of(taken, levels, must_end):
    return Segment({process: tuple([moving.part for moving in taken[process]]) for process in taken}, levels, must_end)

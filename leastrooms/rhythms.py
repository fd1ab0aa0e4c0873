"""Rhythms: the steps of one round of a net that beats, and which of them wait for which."""

from leastrooms.beating import rounds_of, steps_of_round


class Rhythm:
    """The steps of one round of a net that beats, and their waits that are the same with all rooms."""

    def __init__(self, net):
        self.net = net
        self.round_events = events_of(net)
        self.lengths = [_length_of(part) for _, part in self.round_events]
        # Of each channel: the event of each message that is sent, and that is taken, in one round.
        self.sends = {channel: _messages_by(self.round_events, "send", channel) for channel in net.channels}
        self.takes = {channel: _messages_by(self.round_events, "take", channel) for channel in net.channels}
        self.firm = _firm_waits(self)

    def waits_with(self, limits):
        """All waits with these rooms of stores, a dict, ascending, each once."""
        found = list(self.firm)
        for channel in self.net.channels:
            if limits[channel] is not None:
                found.extend(self.waits_for_room(channel, limits[channel]))
        return sorted(set(found))

    def waits_for_room(self, channel, room):
        """The waits of the sends into a channel with this room for its takes."""
        ahead = self.net.first(channel) - room
        return [_wait_for(self.takes[channel], number + ahead, at) for number, at in _last_ones(self.sends[channel])]

    def store_between(self, wait):
        """The store in which a wait is for room; None if it is for something else."""
        word, channel = self.round_events[wait[0]][1][:2]
        return channel if word == "take" and self.round_events[wait[1]][1][:2] == ("send", channel) else None

    def ring_of_first(self):
        """The waits of the first process for itself."""
        many = len([event for event in self.round_events if event[0] == self.round_events[0][0]])
        return [(at, at + 1, 0) for at in range(many - 1)] + [(many - 1, 0, 1)]


def events_of(net):
    """The steps of one round of the net: tuples of a process and a part, in order; NoBeat if there is no such round."""
    rounds = rounds_of(net)
    found = []
    for process in net.processes:
        steps = steps_of_round(net.row(process).parts[0][1])
        found.extend([(process, part) for part in steps * rounds[process]])
    return found


def _length_of(part):
    """How many beats a step lasts."""
    return part[1] if part[0] == "work" else 1


def _firm_waits(rhythm):
    """The waits of each event for the one ahead of it, and of each take for its last message."""
    found = []
    for process in rhythm.net.processes:
        own = [at for at, event in enumerate(rhythm.round_events) if event[0] == process]
        found.extend([(ahead, at, 0) for ahead, at in zip(own, own[1:])])
        found.append((own[-1], own[0], 1))
    for channel in rhythm.net.channels:
        first = rhythm.net.first(channel)
        takes = _last_ones(rhythm.takes[channel])
        found.extend([_wait_for(rhythm.sends[channel], number - first, at) for number, at in takes])
    return found


def _messages_by(events, word, channel):
    """The event that moves each message of a channel in one round of the net, in order."""
    found = []
    for at, (_, part) in enumerate(events):
        if part[0] == word and part[1] == channel:
            found.extend([at] * part[2])
    return found


def _last_ones(moved):
    """Tuples of the number of the last message, from 1 on, that each event moves, and the event."""
    return [(number, at) for number, at in enumerate(moved, 1) if number == len(moved) or moved[number] != at]


def _wait_for(moved, number, later):
    """The wait of an event for the one that moves the message of a number, from 1 on in round 0."""
    distance, place = divmod(number - 1, len(moved))
    return (moved[place], later, -distance)

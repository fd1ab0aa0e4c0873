"""What the tests hold against Beats: nets that go on in rounds, played beat by beat."""

from leastrooms.moments import begin
from leastrooms.nets import Net
from leastrooms.rows import Row, forever, loop, send, take, work


def beating_net(chance):
    """A net made by chance that beats, or nearly: each channel is sent as much as is taken, in rounds that fit."""
    processes = ["ann", "bob", "cid", "dan"][:chance.randint(1, 4)]
    shares = {process: chance.choice((1, 1, 2, 3)) for process in processes}
    pieces = {process: [] for process in processes}
    first = {}
    pairs = [chance.sample(processes[:at + 1], 1) + [processes[at + 1]] for at in range(len(processes) - 1)]
    pairs += [chance.sample(processes, 2) for _ in range(chance.randint(0, 3)) if len(processes) > 1]
    for channel, pair in zip("pqrstu", pairs):
        chance.shuffle(pair)
        sender, taker = pair
        together = shares[sender] * shares[taker]
        pieces[sender].extend(split(chance, send, channel, together // shares[sender]))
        pieces[taker].extend(split(chance, take, channel, together // shares[taker]))
        if chance.random() < 0.5:
            first[channel] = chance.randint(1, 9)
    programs = {}
    for process in processes:
        if not pieces[process] or chance.random() < 0.5:
            pieces[process].append(work(chance.randint(1, 9)))
        chance.shuffle(pieces[process])
        row = Row()
        for piece in pieces[process]:
            row = row + (loop(chance.choice((1, 2)), piece) if chance.random() < 0.05 else piece)
        programs[process] = forever(row)
    return Net(programs, first)


def split(chance, make, channel, many):
    """So many messages by several parts."""
    parts = []
    while many > 0:
        k = chance.randint(1, min(many, 3))
        parts.append(make(channel, k))
        many -= k
    return parts


def begins_by_playing(net, rooms, events, rounds, most=200000):
    """At which beat each event of each round begins: a step begins as soon as it can, messages come when sends end."""
    now = begin(net, 0, rooms)
    levels = {channel: net.first(channel) for channel in net.channels}
    used = dict(levels)
    busy = {process: 0 for process in net.processes}
    ends = {process: None for process in net.processes}
    counted = {process: 0 for process in net.processes}
    own = {process: [at for at, event in enumerate(events) if event[0] == process] for process in net.processes}
    found = [[None] * len(events) for _ in range(rounds)]
    left = rounds * len(events)
    beat = 0
    while left and beat < most:
        # What ends at this beat counts ahead of what begins at it.
        for process in net.processes:
            if ends[process] is not None and busy[process] == beat:
                word, channel, k = ends[process]
                if word == "send":
                    levels[channel] += k
                if word == "take":
                    used[channel] -= k
                ends[process] = None
        for process in net.processes:
            part = now.next_part(process)
            if ends[process] is not None or part is None:
                continue
            if part[0] == "take" and levels[part[1]] < part[2]:
                continue
            if part[0] == "send":
                room = rooms[net.store_of(part[1])]
                if room is not None and used[part[1]] + part[2] > room:
                    continue
                used[part[1]] += part[2]
            if part[0] == "take":
                levels[part[1]] -= part[2]
            round_, place = divmod(counted[process], len(own[process]))
            if round_ < rounds:
                found[round_][own[process][place]] = beat
                left -= 1
            counted[process] += 1
            busy[process] = beat + (part[1] if part[0] == "work" else 1)
            ends[process] = part if part[0] != "work" else ("work", None, 0)
            now = advanced(now, process)
        beat += 1
    return found


def advanced(now, process):
    """The moment in which a process has gone on, whatever the levels."""
    from leastrooms.moments import Moment, opened
    from leastrooms.stops import next_spot
    scene, spots, levels = opened(now)
    index, done = spots[process]
    spots[process] = next_spot(scene.stops[process][index], done)
    return Moment(scene, spots, levels)

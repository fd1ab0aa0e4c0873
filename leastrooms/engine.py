"""Engines: the processes run with values."""

from leastrooms.entries import MOST_VALUE, are_same
from leastrooms.errors import BadGroup, BadNumber, BadSeeds, BadValue
from leastrooms.moments import begin
from leastrooms.nets import check_channel, check_process
from leastrooms.words import is_among, is_between

MOST_PLAYED = 10000
FACTOR = 31
MODULUS = 1000003


class Book:
    """What the processes of an engine hold, what was in the channels, and what was done.

    Engines may share a book as long as none of them writes into it.
    """

    def __init__(self, holdings, streams, taken, entries):
        self.holdings = holdings
        # All values that ever were in each channel, and how many of them were taken.
        self.streams = streams
        self.taken = taken
        self.entries = entries

    def copied(self):
        """A Book with the same in it."""
        streams = {channel: list(self.streams[channel]) for channel in self.streams}
        return Book(dict(self.holdings), streams, dict(self.taken), list(self.entries))


class Stride:
    """A step that an engine could do: its entry, the moment behind it, and what its process holds then."""

    def __init__(self, entry, moment, holding):
        self.entry = entry
        self.moment = moment
        self.holding = holding


class Trial:
    """Gives for with a copy of an engine; behind the rows of with the engine is as the copy is, or as it was."""

    def __init__(self, engine):
        self.engine = engine
        self.worker = None

    def __enter__(self):
        self.worker = self.engine.copy()
        return self.worker

    def __exit__(self, kind, value, trace):
        engine = self.engine
        worker = self.worker
        if kind is None and worker.keep is not None:
            engine.moment = worker.moment
            engine._book = worker._book
            engine._is_sharing = True
            worker._is_sharing = True


class Engine:
    """A net that runs step by step; each process holds a value, and its messages are values."""

    def __init__(self, net, n, rooms, seeds=None, fold=None):
        self.moment = begin(net, n, rooms)
        if seeds is not None and not _are_seeds(seeds, net.processes):
            raise BadSeeds(seeds)
        told = {} if seeds is None else seeds
        streams = {channel: list(range(1, net.first(channel) + 1)) for channel in net.channels}
        self._book = Book(
            {process: told.get(process, 0) for process in net.processes}, streams,
            {channel: 0 for channel in net.channels}, [],
        )
        self._is_sharing = False
        self._mixer = fold
        # None tells a trial that nothing of it is to stay.
        self.keep = True

    @property
    def log(self):
        """The entries of all steps that were done: tuples of a process, a word, a name and values."""
        return list(self._book.entries)

    def held(self, process):
        """What a process holds."""
        check_process(self.moment.net, process)
        return self._book.holdings[process]

    def stream(self, channel):
        """All values that ever were in a channel, in order."""
        check_channel(self.moment.net, channel)
        return list(self._book.streams[channel])

    def waiting(self, channel):
        """The values in a channel that were not taken."""
        check_channel(self.moment.net, channel)
        return self._book.streams[channel][self._book.taken[channel]:]

    def step(self, process):
        """Do one step of a process, and return its entry."""
        stride = self.stride_of(process)
        self.finish(stride)
        return stride.entry

    def play(self, order=None, most=1000):
        """Do one step of each process that can, in their order, again and again; return how many steps these are."""
        processes = self.moment.net.processes
        if order is not None and not _is_order(order, processes):
            raise BadGroup(order)
        if not is_between(most, 0, MOST_PLAYED):
            raise BadNumber(most)
        turns = processes if order is None else tuple(order)
        with self.trial() as worker:
            many = worker.played(turns, most)
        return many

    def copy(self):
        """An Engine that is as this one is, and goes on by itself."""
        other = Engine(self.moment.net, self.moment.n, self.moment.rooms, None, self._mixer)
        other.moment = self.moment
        other._book = self._book
        other._is_sharing = True
        self._is_sharing = True
        return other

    def trial(self):
        """What gives for with a copy to work on."""
        return Trial(self)

    def stride_of(self, process):
        """The step that a process would do."""
        moment = self.moment >> process
        part = self.moment.next_part(process)
        holding = self._book.holdings[process]
        if part[0] == "work":
            return Stride((process, "work", part[1], ()), moment, self._folded(holding, part[1]))
        word, channel, k = part
        if word == "take":
            at = self._book.taken[channel]
            values = self._book.streams[channel][at:at + k]
            for value in values:
                holding = self._folded(holding, value)
        else:
            values = []
            for _ in range(k):
                values.append(holding)
                holding = self._folded(holding, 1)
        return Stride((process, word, channel, tuple(values)), moment, holding)

    def finish(self, stride):
        """Do a step that is told."""
        process, word, name, values = stride.entry
        if self._is_sharing:
            self._book = self._book.copied()
            self._is_sharing = False
        self.moment = stride.moment
        self._book.holdings[process] = stride.holding
        self._book.entries.append(stride.entry)
        if word == "send":
            self._book.streams[name].extend(values)
        elif word == "take":
            self._book.taken[name] = self._book.taken[name] + len(values)

    def played(self, turns, most):
        """The same as play, with all that is done ahead of what raises an exception."""
        many = 0
        before = -1
        while before < many < most:
            before = many
            for process in turns:
                if many < most and self.moment.wait(process) is None:
                    self.step(process)
                    many = many + 1
        return many

    def _folded(self, holding, value):
        """What a process holds behind a value."""
        if self._mixer is None:
            return (holding * FACTOR + value) % MODULUS
        fold = self._mixer
        result = fold(holding, value)
        if not is_between(result, 0, MOST_VALUE):
            raise BadValue(result)
        return result


def tried(engine, processes, keep=True):
    """Do a step of each of some processes in a trial, and return their entries; all stay done if keep is true."""
    with engine.trial() as worker:
        entries = [worker.step(process) for process in processes]
        if not keep:
            worker.keep = None
    return entries


def judge_record(engine, record):
    """None if a value is the list of the entries that an engine would have; else what is first not right there."""
    if not isinstance(record, list):
        return (0, "list")
    return _first_wrong(engine.copy(), record)


def follow_entries(engine, entries):
    """Do the steps of entries as long as the engine has the same ones, and return how many."""
    with engine.trial() as worker:
        wrong = _first_wrong(worker, entries)
    return len(entries) if wrong is None else wrong[0]


def _first_wrong(worker, entries):
    """Do the steps of entries ahead of the first that is not right; return its index and why, None if all are."""
    for index, entry in enumerate(entries):
        word = _verdict_on_entry(worker, entry)
        if word is not None:
            return (index, word)
    return None


def _verdict_on_entry(worker, entry):
    """Do the step of an entry, if it has just this entry; else nothing, and return the word that tells why."""
    processes = worker.moment.net.processes
    if not isinstance(entry, tuple) or len(entry) != 4 or not is_among(entry[0], processes):
        return "entry"
    if worker.moment.wait(entry[0]) is not None:
        return "refused"
    stride = worker.stride_of(entry[0])
    if not are_same(stride.entry, entry):
        return "other"
    worker.finish(stride)
    return None


def _are_seeds(thing, processes):
    """Whether a value is a dict of some of these processes and values."""
    if not isinstance(thing, dict):
        return False
    return all([is_among(process, processes) and is_between(thing[process], 0, MOST_VALUE) for process in thing])


def _is_order(thing, processes):
    """Whether a value is a list or tuple of all of these processes, each once."""
    if not isinstance(thing, (list, tuple)) or len(thing) != len(processes):
        return False
    return all([is_among(process, processes) for process in thing]) and sorted(thing) == list(processes)

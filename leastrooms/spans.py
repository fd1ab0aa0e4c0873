"""Spans: between which n, of first and so many steps more, all processes begin at the same parts."""

from leastrooms.stops import stops_of
from leastrooms.words import LARGEST_NUMBER


def last_of(first, step):
    """The greatest m for which first + step * m is a number n."""
    return (LARGEST_NUMBER - first) // step


def ends_of_spans(net, first, step):
    """Tuples of the first and the last m of each span, ascending."""
    last = last_of(first, step)
    breaks = sorted(set([m for process in net.processes for m in _breaks_of(net, process, first, step, last)]))
    return list(zip([0] + breaks, [m - 1 for m in breaks] + [last]))


def _breaks_of(net, process, first, step, last):
    """Each m at which a process begins elsewhere than ahead of it."""
    found = []
    # A loop that is passed over at first is gone through from some n on; nothing else is another beginning.
    for a, b in _counts_in(net.row(process).parts):
        if a > 0:
            n = -b // a + 1
            m = (n - first + step - 1) // step
            if 0 < m <= last and _begins_anew(net, process, first + step * m, step):
                found.append(m)
    return found


def _begins_anew(net, process, n, step):
    """Whether a process begins at n elsewhere than one step ahead of it."""
    return _begins_at(net, process, n) != _begins_at(net, process, n - step)


def _begins_at(net, process, n):
    """The indexes of the parts at which a process begins."""
    return stops_of(net, process, n)[0].path


def _counts_in(parts):
    """The counts of all loops among parts, inner ones included."""
    found = []
    for part in parts:
        if part[0] == "loop":
            found.append(part[1])
        if part[0] in ("loop", "forever"):
            found.extend(_counts_in(part[-1]))
    return found

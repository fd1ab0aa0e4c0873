"""Beating: whether a net goes on in rounds that are all alike, and what one round is."""

from math import gcd

from leastrooms.errors import NoBeat
from leastrooms.nets import check_net
from leastrooms.rows import Row, is_round, messages

MOST_STEPS = 120


def rounds_of(net):
    """A dict from processes to the least rounds that fit together; NoBeat with the first reason why there are none."""
    check_net(net)
    if not all([_is_forever(net.row(process).parts) for process in net.processes]):
        raise NoBeat("program")
    bodies = {process: net.row(process).parts[0][1] for process in net.processes}
    if not all([_has_plain_counts(bodies[process]) for process in net.processes]):
        raise NoBeat("count")
    steps = {process: _steps_in(bodies[process]) for process in net.processes}
    if 0 in list(steps.values()):
        raise NoBeat("step")
    if not all([len(net.channels_in(store)) == 1 for store in net.stores]):
        raise NoBeat("store")
    moves = {process: messages(Row(bodies[process]), 0) for process in net.processes}
    ends = [_ends_of(net, moves, channel) for channel in net.channels]
    if None in ends:
        raise NoBeat("end")
    shares = _shares_from(net.processes[0], ends)
    if len(shares) < len(net.processes):
        raise NoBeat("joined")
    if not all([_is_balanced(shares, end) for end in ends]):
        raise NoBeat("balance")
    least = _least_rounds(shares)
    if sum([least[process] * steps[process] for process in net.processes]) > MOST_STEPS:
        raise NoBeat("long")
    return {process: least[process] for process in net.processes}


def steps_of_round(parts):
    """A list of all sends, takes and works of one round, as they are done."""
    found = []
    for part in parts:
        if not is_round(part):
            found.append(part)
            continue
        inner = steps_of_round(part[2])
        # A loop that does nothing may have more rounds than any list.
        if inner:
            found.extend(inner * part[1][1])
    return found


def _is_forever(parts):
    return len(parts) == 1 and parts[0][0] == "forever"


def _has_plain_counts(parts):
    """Whether no loop among parts has another number of rounds for another n."""
    loops = [part for part in parts if is_round(part)]
    return all([part[1][0] == 0 and _has_plain_counts(part[2]) for part in loops])


def _steps_in(parts):
    """How many steps parts without a forever have."""
    return sum([part[1][1] * _steps_in(part[2]) if is_round(part) else 1 for part in parts])


def _ends_of(net, moves, channel):
    """The sender, its messages in a round, the taker, and those that it takes; None if one of both does nothing."""
    sender = net.sender(channel)
    taker = net.taker(channel)
    if sender is None or taker is None:
        return None
    sent = moves[sender][("send", channel)]
    taken = moves[taker][("take", channel)]
    return (sender, sent, taker, taken) if sent > 0 and taken > 0 else None


def _shares_from(process, ends):
    """The rounds of all processes that are joined with one that has 1, as fractions: tuples of two integers."""
    shares = {process: (1, 1)}
    left = [process]
    while left:
        member = left.pop()
        for sender, sent, taker, taken in ends:
            if sender == member and taker not in shares:
                shares[taker] = _product(shares[sender], sent, taken)
                left.append(taker)
            if taker == member and sender not in shares:
                shares[sender] = _product(shares[taker], taken, sent)
                left.append(sender)
    return shares


def _product(share, above, below):
    """A fraction times another one, in lowest terms."""
    over, under = share[0] * above, share[1] * below
    common = gcd(over, under)
    return over // common, under // common


def _is_balanced(shares, end):
    sender, sent, taker, taken = end
    return shares[sender][0] * sent * shares[taker][1] == shares[taker][0] * taken * shares[sender][1]


def _least_rounds(shares):
    """The least integers that are to each other as fractions are."""
    whole = 1
    for _, under in shares.values():
        whole = whole * under // gcd(whole, under)
    rounds = {process: over * whole // under for process, (over, under) in shares.items()}
    common = 0
    for many in rounds.values():
        common = gcd(common, many)
    return {process: many // common for process, many in rounds.items()}

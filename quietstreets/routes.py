"""The shortest free drives in a net."""

from heapq import heapify, heappop, heappush


def least_by_direction(net, start):
    """The dict from each direction by which some free drive from the start ends to the least length of one."""
    least = {}
    queue = [(net.lengths[direction], direction) for direction in net.directions_from(start)]
    heapify(queue)
    while queue:
        length, direction = heappop(queue)
        if direction not in least:
            least[direction] = length
            for behind in net.nexts[direction]:
                heappush(queue, (length + net.lengths[behind], behind))
    return least


def least_by_place(least):
    """The dict from each place that a table by directions comes to to the least length there."""
    lengths = {}
    for (_, b), length in least.items():
        lengths[b] = min(length, lengths.get(b, length))
    return lengths


def shortest_drives(net, start, goals):
    """The list of the best drives from the start to each of the goals, which are other places."""
    least = least_by_direction(net, start)
    lengths = least_by_place(least)
    before = directions_before(net, least)
    found = []
    waiting = [(a, b) for (a, b), length in least.items() if b in goals and length == lengths[b]]
    while waiting:
        drive = waiting.pop()
        # No best drive comes to its start again, so one that begins there is whole.
        if drive[0] == start:
            found.append(drive)
        else:
            waiting.extend([(a,) + drive for a, _ in before[drive[:2]]])
    return found


def directions_before(net, least):
    """The dict from each direction to those behind which it ends a drive of the least length."""
    before = {direction: [] for direction in least}
    for direction, length in least.items():
        for behind in net.nexts[direction]:
            if length + net.lengths[behind] == least[behind]:
                before[behind].append(direction)
    return before

"""Where free drives lead to."""


def reached_places(net, start):
    """The dict of True for the places at which some free drive from the start ends."""
    found = {}
    waiting = net.directions_from(start)
    while waiting:
        direction = waiting.pop()
        if direction not in found:
            found[direction] = True
            waiting.extend(net.nexts[direction])
    return {b: True for _, b in found}

"""Where free drives lead to."""


def reached_places(net, start):
    """The dict of True for the places at which some free drive from the start ends."""
    found = {}
    waiting = net.directions_from(start)
    while waiting:
        direction = waiting.pop()
        if direction not in found:
            found[direction] = True
            waiting.extend(net.nexts[direction])
    return {b: True for _, b in found}


def short_drive(net, start, goal):
    """A free drive from the start to the goal that goes through as few streets as any, or None."""
    found = {}
    drives = net.directions_from(start)
    while drives:
        waiting = []
        for drive in drives:
            if drive[-1] == goal:
                return drive
            ending = drive[-2:]
            # What goes on behind a direction does not depend on what was before.
            if ending not in found:
                found[ending] = True
                waiting.extend([drive + (c,) for _, c in net.nexts[ending]])
        drives = waiting
    return None

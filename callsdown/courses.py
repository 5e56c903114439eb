"""What may come of the calls of one caller, whoever is MISSING, and the bounds that follow.

A COURSE is told by the numbers of the calls in vain. It hangs on how many the caller is
handed, not on who they are. A place is a pair (COUNT, LEFT): how many somebody told is
handed, and how many of these may be MISSING.
"""

from callsdown.handing import sizes_left
from callsdown.shapes import sizes


def leads_of(kind, place):
    """A dict of the places to which a call leads: the greatest number of such a call, and the calls in vain ahead."""
    count, missing = place
    leads = {}
    rests = {}
    seen = set()
    fresh = [(sizes(kind, count), 1, ())]
    while fresh:
        parts, call, vain = fresh.pop()
        # Which of the calls ahead were in vain is all the same now, only how many counts.
        state = (parts, call, len(vain))
        if parts and state not in seen:
            seen.add(state)
            size = parts[0]
            behind = (size - 1, missing - len(vain))
            if behind not in leads or leads[behind][0] < call:
                leads[behind] = (call, vain)
            fresh.append((parts[1:], call + 1, vain))
            if len(vain) < missing:
                if size not in rests:
                    rests[size] = sizes_left(kind, size)
                fresh.append((rests[size] + parts[1:], call + 1, vain + (call,)))
    return leads


def bounds_of(kind, place):
    """A dict of the greatest LAST tick behind the place, and behind all to which it leads."""
    leads = {}
    fresh = [place]
    while fresh:
        one = fresh.pop()
        if one not in leads:
            found = leads_of(kind, one)
            leads[one] = {behind: found[behind][0] for behind in found}
            fresh.extend(list(found))
    bounds = {}
    # A call leads to a lesser COUNT.
    for one in sorted(list(leads)):
        ticks = [call + bounds[behind] for behind, call in leads[one].items()]
        bounds[one] = max(ticks, default=0)
    return bounds

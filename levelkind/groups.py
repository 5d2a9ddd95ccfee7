"""What hangs together."""


def groups(rows):
    """The indexes of the rows, in lists of those that hang together by equal things in them."""
    holders = holders_of(rows)
    seen = set()
    found = []
    for start in range(len(rows)):
        if start not in seen:
            seen.add(start)
            group = []
            waiting = [start]
            while waiting:
                at = waiting.pop()
                group.append(at)
                for near in [holder for thing in rows[at] for holder in holders[thing]]:
                    if near not in seen:
                        seen.add(near)
                        waiting.append(near)
            found.append(group)
    return found


def holders_of(rows):
    """For each thing the indexes of the rows that have it."""
    found = {}
    for at, row in enumerate(rows):
        for thing in row:
            found.setdefault(thing, []).append(at)
    return found

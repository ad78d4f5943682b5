"""What the document says, word by word and without haste, as a second opinion on small nets."""


def gate_lanes(gate):
    return {gate[1]} if gate[0] == "add" else {gate[1], gate[2]}


def touching(one, other):
    return bool(gate_lanes(one) & gate_lanes(other))


def told(gates, content):
    had = dict(enumerate(content))
    for word, i, j in gates:
        if word == "add":
            had[i] += j
            continue
        lesser, greater = sorted((had[i], had[j]))
        had.update({
            "low": {i: lesser},
            "high": {i: greater},
            "sort": {i: lesser, j: greater},
            "copy": {i: had[j]},
        }[word])
    return [had[lane] for lane in sorted(had)]


def levels(gates):
    found = []
    for place, gate in enumerate(gates):
        ahead = [found[k] for k in range(place) if touching(gates[k], gate)]
        found.append(1 + max(ahead) if ahead else 0)
    return found


def cone(gates, lane):
    """The places in the cone, and the lanes that are looked at ahead of all gates."""
    looked, places = {lane}, set()
    for place, (word, i, j) in reversed(list(enumerate(gates))):
        changed = {i, j} if word == "sort" else {i}
        if not changed & looked:
            continue
        places.add(place)
        if word == "low" or word == "high":
            looked = looked | {j}
        elif word == "sort":
            looked = looked | {i, j}
        elif word == "copy":
            looked = looked - {i} | {j}
    return sorted(places), sorted(looked)


def exchanged(gates, place):
    return gates[:place] + (gates[place + 1], gates[place]) + gates[place + 2:]


def shuffles(gates):
    """All shuffles of these gates, as tuples, with the fewest exchanges that lead to each."""
    found = {tuple(gates): 0}
    waiting = [tuple(gates)]
    for now in waiting:
        for place in range(len(now) - 1):
            then = exchanged(now, place)
            if not touching(now[place], now[place + 1]) and then not in found:
                found[then] = found[now] + 1
                waiting.append(then)
    return found

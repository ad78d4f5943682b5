"""What the document says of flags and plain rounds, without haste: by going all flags round."""

import itertools


def flags_of(lanes):
    return sorted(itertools.product((0, 1), repeat=lanes))


def within(one, other):
    return all(not own or more for own, more in zip(one, other))


def leading(chart):
    """To which flags the map leads all flags, by its lots: a lane has a 0 if all lanes of some lot have."""
    found = {}
    for flags in flags_of(chart.lanes):
        found[flags] = tuple(0 if any(all(flags[lane] == 0 for lane, _ in lot) for lot in family.lots()) else 1
                             for family in chart.families())
    return found


def gone(led, flags, many):
    for _ in range(many):
        flags = led[flags]
    return flags


def first_and_period(led, starts):
    """By the states of all these flags at once, gone round till they come again."""
    seen = []
    now = tuple(starts)
    while now not in seen:
        seen.append(now)
        now = tuple(led[flags] for flags in now)
    return (seen.index(now), len(seen) - seen.index(now))


def flags_at(content, number):
    return tuple(int(own >= number) for own in content)


def content_behind(led, content, many):
    """Each lane has the greatest of the numbers at which its flag is a 1 behind the rounds."""
    first, period = first_and_period(led, list(led))
    rounds = many if many < first else first + (many - first) % period
    numbers = sorted(set(content))
    return [max(number for number in numbers if gone(led, flags_at(content, number), rounds)[lane])
            for lane in range(len(content))]


def rank(led, flags):
    laps = {own for lap in all_laps(led) for own in lap}
    found = 0
    while flags not in laps:
        flags, found = led[flags], found + 1
    return found


def all_laps(led):
    """Each lap from its least flags on, sorted."""
    found = []
    for flags in sorted(led):
        lap, now = [flags], led[flags]
        while now != flags and now not in lap:
            lap.append(now)
            now = led[now]
        if now == flags and flags == min(lap):
            found.append(lap)
    return found


def is_settling(led, many, counts):
    return set(counts) == set(led) and all(
        0 <= counts[flags] <= many and (led[flags] == flags if counts[flags] == 0
                                        else counts[led[flags]] < counts[flags])
        for flags in led)


def is_monotone(lanes, table):
    led = dict(zip(flags_of(lanes), table))
    return all(within(led[one], led[other]) for one in led for other in led if within(one, other))

"""Papers that show that claims are true, told by the first word of the claim's line in the table and by its parts."""

from lanelots.basics import check_number
from lanelots.cofamilies import parting, saddle, unders
from lanelots.even import even_of, uneven_of
from lanelots.gaps import above, at_most, keeps, slip
from lanelots.nets import check_as_wide
from lanelots.pace import answer_paper, pace, plan_paper
from lanelots.plainrounds import laps, ranks, settles
from lanelots.runs import exchanges, unlike_lane
from lanelots.sources import nowhere, source
from lanelots.spans import fitting, ring
from lanelots.told import are_alike, shown, steps_of, unlike


def first_paper(word, parts):
    """A paper of the claim with this word; None if it is not true. The errors are those that leave it no claim."""
    if word == "below":
        return unders(*parts)
    if word == "tells":
        return _saddle_with(*parts)
    if word == "shuffled":
        return _exchanges_between(*parts)
    if word == "alike":
        return _both_steps(*parts)
    if word == "hangs":
        return shown(*parts)
    if word == "fits":
        return fitting(*parts)
    if word == "within":
        return at_most(*parts)
    if word == "kept":
        return _papers_of_kept(*parts)
    if word == "reached":
        return source(*parts)
    if word == "settles":
        return _ranks_if_settling(*parts)
    if word == "paced":
        return plan_paper(*parts)
    return even_of(*parts)


def contrary_paper(word, parts):
    """A paper of the contrary claim, of parts for which the claim with this word is not true."""
    if word == "below":
        return parting(*parts)
    if word == "tells":
        return saddle(parts[0], parts[1])
    if word == "shuffled":
        return unlike_lane(*parts)
    if word == "alike":
        return unlike(*parts)
    if word == "hangs":
        return steps_of(parts[0])
    if word == "fits":
        return ring(*parts)
    if word == "within":
        return above(*parts)
    if word == "kept":
        return slip(parts[0], parts[1], parts[0])
    if word == "reached":
        return nowhere(*parts)
    if word == "settles":
        return _long_lap(*parts)
    if word == "paced":
        return _faster(parts[0], parts[1])
    return uneven_of(*parts)


def _saddle_with(family, content, number):
    """The saddle, if it has the number; None."""
    found = saddle(family, content)
    check_number(number)
    return found if found[0] == number else None


def _exchanges_between(net, other):
    """Exchanges that lead from the one net to the other one, which must have as many lanes; None."""
    check_as_wide(net, other)
    return exchanges(net, other)


def _both_steps(net, other):
    """Steps of both nets, if they are alike; None."""
    return (steps_of(net), steps_of(other)) if are_alike(net, other) else None


def _papers_of_kept(spans, chart):
    """For each difference a paper that it holds behind the map, if the map keeps the spans; None."""
    if not keeps(spans, chart):
        return None
    return [at_most(spans, chart[i], chart[j], number) for i, j, number in spans.differences()]


def _ranks_if_settling(chart):
    """The ranks of all flags, if the map settles; None."""
    return ranks(chart) if settles(chart) else None


def _long_lap(chart):
    """The first lap of two flags or more."""
    return [lap for lap in laps(chart) if len(lap) > 1][0]


def _faster(chart, lane):
    """The pace of the lane with an answer paper for it."""
    own = pace(chart, lane)
    return (own, answer_paper(chart, lane, own))

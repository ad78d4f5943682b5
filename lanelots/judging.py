"""Whether values are papers of claims, by the first word of the claim's line in the table and by its parts."""

from lanelots.basics import is_content, is_lane, is_list
from lanelots.best import is_less
from lanelots.cofamilies import is_parting, is_saddle, is_unders
from lanelots.even import is_even, is_uneven
from lanelots.gaps import is_above, is_at_most, is_slip
from lanelots.lots import first_under, lanes_in
from lanelots.pace import is_answer_paper, is_plan_paper, is_rate
from lanelots.plainrounds import comes, is_lap, is_settling
from lanelots.runs import are_exchanges, is_unlike_lane
from lanelots.sources import is_nowhere, is_source
from lanelots.spans import is_ring
from lanelots.told import is_steps


def is_first_paper(word, parts, value):
    """Whether any value is a paper of the claim with this word."""
    if word == "below":
        return is_unders(*parts, value)
    if word == "tells":
        return is_saddle(parts[0], parts[1], value) and value[0] == parts[2]
    if word == "shuffled":
        return are_exchanges(*parts, value)
    if word == "alike":
        return _are_like_steps(*parts, value)
    if word == "hangs":
        return _is_hanging(*parts, value)
    if word == "fits":
        return value in parts[0]
    if word == "within":
        return is_at_most(*parts, value)
    if word == "kept":
        return _is_kept(*parts, value)
    if word == "reached":
        return is_source(*parts, value)
    if word == "settles":
        return is_settling(parts[0], comes(parts[0])[0], value)
    if word == "paced":
        return is_plan_paper(*parts, value)
    return is_even(*parts, value)


def is_contrary_paper(word, parts, value):
    """Whether any value is a paper of the contrary claim."""
    if word == "below":
        return is_parting(*parts, value)
    if word == "tells":
        return is_saddle(parts[0], parts[1], value) and value[0] != parts[2]
    if word == "shuffled":
        return is_unlike_lane(*parts, value)
    if word == "alike":
        return _is_unlike_at(*parts, value)
    if word == "hangs":
        return _is_free(*parts, value)
    if word == "fits":
        return is_ring(*parts, value)
    if word == "within":
        return is_above(*parts, value)
    if word == "kept":
        return is_slip(parts[0], parts[1], parts[0], value)
    if word == "reached":
        return is_nowhere(*parts, value)
    if word == "settles":
        return is_lap(*parts, value) and len(value) > 1
    if word == "paced":
        return _is_faster(*parts, value)
    return is_uneven(*parts, value)


def _are_like_steps(net, other, value):
    """Whether any value is a tuple of steps of both nets that end with lots under one another at each lane."""
    if not isinstance(value, tuple) or len(value) != 2:
        return False
    if not is_steps(net, value[0]) or not is_steps(other, value[1]):
        return False
    pairs = list(zip(value[0][-1], value[1][-1]))
    return all([_are_all_over(ones, others) and _are_all_over(others, ones) for ones, others in pairs])


def _are_all_over(lots, others):
    """Whether each of the lots has one of the others under it."""
    return None not in [first_under(others, lot) for lot in lots]


def _is_unlike_at(net, other, value):
    """Whether any value is a tuple of a lane and a content of which both nets tell unlike numbers there."""
    if not isinstance(value, tuple) or len(value) != 2:
        return False
    lane, content = value
    if not is_lane(lane, net.lanes) or not _is_content_of(content, net.lanes):
        return False
    return net(content)[lane] != other(content)[lane]


def _is_hanging(net, lane, other, value):
    """Whether any value is a tuple of contents, unlike at the other lane alone, that leave the lane unlike numbers."""
    if not isinstance(value, tuple) or len(value) != 2:
        return False
    one, two = value
    if not _is_content_of(one, net.lanes) or not _is_content_of(two, net.lanes):
        return False
    return [at for at in range(net.lanes) if one[at] != two[at]] == [other] and net(one)[lane] != net(two)[lane]


def _is_free(net, lane, other, value):
    """Whether any value is steps of the net at the end of which no lot of the lane has the other one."""
    return is_steps(net, value) and other not in lanes_in(value[-1][lane])


def _is_kept(spans, chart, value):
    """Whether any value is a list that has for each difference a paper that it holds behind the map."""
    told = spans.differences()
    if not is_list(value) or len(value) != len(told):
        return False
    return all([is_at_most(spans, chart[i], chart[j], number, paper) for (i, j, number), paper in zip(told, value)])


def _is_faster(chart, lane, rate, value):
    """Whether any value is a tuple of a rate that is more than this one, and an answer paper for it."""
    if not isinstance(value, tuple) or len(value) != 2:
        return False
    later, answer = value
    return is_rate(later) and is_less(rate, later) and is_answer_paper(chart, lane, later, answer)


def _is_content_of(value, lanes):
    return is_content(value) and len(value) == lanes

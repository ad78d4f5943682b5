"""Claims, their contrary ones, and papers that show that they are true."""

from lanelots.basics import copied
from lanelots.deeds import kind_of
from lanelots.errors import InvalidClaim, LaneError, LimitError, MissingError, StateError
from lanelots.evidence import contrary_paper, first_paper
from lanelots.judging import is_contrary_paper, is_first_paper

_CONTRARIES = {
    "below": "over",
    "tells": "misses",
    "shuffled": "sorted",
    "alike": "unlike",
    "hangs": "free",
    "fits": "empty",
    "within": "beyond",
    "kept": "broken",
    "reached": "barred",
    "settles": "laps",
    "paced": "faster",
    "even": "uneven",
}
_KINDS_OF_PARTS = {
    "below": ("family", "family"),
    "tells": ("family", "content", "number"),
    "shuffled": ("net", "net"),
    "alike": ("net", "net"),
    "hangs": ("net", "lane", "lane"),
    "fits": ("spans",),
    "within": ("spans", "family", "family", "number"),
    "kept": ("spans", "map"),
    "reached": ("map", "row", "row"),
    "settles": ("map",),
    "paced": ("map", "lane", "rate"),
    "even": ("map",),
}
_KINDS_OF_THINGS = ("net", "family", "map", "spans")


def is_claim(value):
    """Whether any value is a claim."""
    return _first_told(value) is not None


def is_true(claim):
    """Whether the claim is true."""
    return (_first_paper(claim) is not None) == (claim[0] in _CONTRARIES)


def contrary(claim):
    """The claim with the other word and the same parts."""
    _first_paper(claim)
    word = _first_word(claim[0])
    return (_CONTRARIES[word] if claim[0] == word else word, *copied(claim[1:]))


def paper_of(claim):
    """A paper that shows that the claim is true; None if it is not."""
    paper = _first_paper(claim)
    if claim[0] in _CONTRARIES:
        return paper
    return contrary_paper(_first_word(claim[0]), claim[1:]) if paper is None else None


def is_paper(claim, value):
    """Whether any value is a paper of the claim."""
    _first_paper(claim)
    word, parts = _first_word(claim[0]), claim[1:]
    return is_first_paper(word, parts, value) if claim[0] == word else is_contrary_paper(word, parts, value)


def true_word_and_paper(value):
    """The word of the claim or of its contrary one, whichever is true, and a paper; None for what is no claim."""
    told = _first_told(value)
    if told is None:
        return None
    word = _first_word(value[0])
    if told[0] is not None:
        return (word, told[0])
    return (_CONTRARIES[word], contrary_paper(word, value[1:]))


def _first_paper(claim):
    """A paper of the claim with the first word of its line; None if that is not true. InvalidClaim unless a claim."""
    told = _first_told(claim)
    if told is None:
        raise InvalidClaim(claim)
    return told[0]


def _first_told(value):
    """The same alone in a tuple; None for any value that is no claim."""
    if not isinstance(value, tuple) or len(value) == 0 or _first_word(value[0]) is None:
        return None
    word, parts = _first_word(value[0]), value[1:]
    if len(parts) != len(_KINDS_OF_PARTS[word]) or not _has_things(word, parts):
        return None
    try:
        return (first_paper(word, parts),)
    except (LaneError, MissingError, StateError, LimitError):
        return None


def _has_things(word, parts):
    """Whether there are things of the right kinds wherever some must stand."""
    return all([kind_of(parts[place]) == _KINDS_OF_PARTS[word][place] for place in things_at(word)])


def things_at(word):
    """The positions among the parts at which nets, families, maps or spans stand."""
    return tuple([place for place, kind in enumerate(kinds_of_parts(word)) if kind in _KINDS_OF_THINGS])


def kinds_of_parts(word):
    """What the parts of a claim with this word are."""
    if _first_word(word) is None:
        raise InvalidClaim(word)
    return _KINDS_OF_PARTS[_first_word(word)]


def _first_word(value):
    """The first word of the line in which any value is a word; None if there is none."""
    if not isinstance(value, str):
        return None
    for word in _CONTRARIES:
        if value in (word, _CONTRARIES[word]):
            return word
    return None

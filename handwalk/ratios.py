"""The marks and the ratios of parts of the kind "special" ([26])."""


def marks_of(inner):
    """Return the dict of the marks of all positions.

    The network is one part of the kind "special", its entry is place 0, and its gate is the hand.
    """
    b, u = _first_passage(inner)
    s, c = _others_at(inner, u, b)
    if not _has_three(inner, inner.far_end(s, u)):
        s, c = c, s
    marks = {s: 3, c: "inf"}
    marks[_second_passage(inner, b, u)] = 4
    marks[_second_passage(inner, c, u)] = 0
    gate = len(inner)
    marks[gate], marks[b] = (1, 2) if u == 0 else (2, 1)
    return marks


def _has_three(inner, place):
    return len(inner.passages_at(place)) == 3


def _others_at(inner, place, passage):
    """Return the list of the passages at the place without this one."""
    return [other for other in inner.passages_at(place) if other != passage]


def _first_passage(inner):
    """Return the passage b and the place u."""
    exits = inner.passages_at(0)
    if not _has_three(inner, 0):
        return exits[0], inner.far_end(exits[0], 0)
    return min([passage for passage in exits if not _has_three(inner, inner.far_end(passage, 0))]), 0


def _second_passage(inner, passage, u):
    """Return the other passage at the place with two passages to which this one leads from u."""
    middle = inner.far_end(passage, u)
    return _others_at(inner, middle, passage)[0]


def same_ratio(left, right):
    """Return True if four different marks have the same ratio as four other ones."""
    above, below = _fraction(left)
    other_above, other_below = _fraction(right)
    # No difference is 0 modulo 5, so the fractions can be compared without a division.
    return (above * other_below - other_above * below) % 5 == 0


def _fraction(marks):
    x1, x2, x3, x4 = marks
    above = _difference(x1, x3) * _difference(x2, x4)
    below = _difference(x1, x4) * _difference(x2, x3)
    return above, below


def _difference(x, y):
    return 1 if "inf" in (x, y) else x - y

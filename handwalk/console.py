"""A console that holds one walker and takes commands as texts."""

from handwalk.bringing import bring
from handwalk.decisions import decide
from handwalk.errors import (
    InvalidNetwork, InvalidPassage, InvalidPosition, InvalidState, InvalidThing, InvalidWalk, LimitExceeded,
    NothingToUndo,
)
from handwalk.listing import count_states
from handwalk.networks import Network
from handwalk.walkers import Walker

_MOST_DIGITS = 4


def _step(walker, passage):
    walker.step(passage)
    return str(walker.place)


def _walk(walker, *steps):
    walker.walk(*steps)
    return str(walker.place)


def _back(walker):
    walker.back()
    return str(walker.place)


def _state(walker):
    return _in_words([walker.place, *walker.things])


def _text(walker):
    return _in_words(walker.steps)


def _count(walker):
    return str(count_states(walker.network))


def _decide(walker, place, *things):
    answer = decide(walker.network, (place, things))
    return answer[0]


def _bring(walker, thing, position):
    walk = bring(walker.network, thing, position)
    return "no" if walk is None else _in_words(walk)


def _in_words(numbers):
    return " ".join([str(number) for number in numbers]) if numbers else "none"


_ACTIONS = {
    "step": _step, "walk": _walk, "back": _back, "state": _state, "text": _text, "count": _count, "decide": _decide,
    "bring": _bring,
}

# The least and the greatest number of integers behind each word; None stands for any number.
_COUNTS = {
    "step": (1, 1), "walk": (0, None), "back": (0, 0), "state": (0, 0), "text": (0, 0), "count": (0, 0),
    "decide": (2, None), "bring": (2, 2),
}


class Console:
    """A console, at first without a walker."""

    def __init__(self):
        self._walker = None

    def run(self, command):
        """Return the result of a command, or the text that tells why it fails, for any value."""
        if not isinstance(command, str):
            return "bad command"
        word, *words = command.split(" ")
        if word == "new":
            return self._begin(_pairs_in(words))
        return self._act(word, _integers_in(words))

    def _begin(self, pairs):
        if pairs is None:
            return "bad command"
        try:
            network = Network.joined(*pairs)
        except InvalidNetwork:
            return "bad network"
        self._walker = Walker(network)
        return "ok"

    def _act(self, word, numbers):
        if numbers is None or not _takes(word, len(numbers)):
            return "bad command"
        if self._walker is None:
            return "no walker"
        action = _ACTIONS[word]
        try:
            return action(self._walker, *numbers)
        except (InvalidPassage, InvalidWalk):
            return "bad step"
        except LimitExceeded:
            return "too many steps"
        except NothingToUndo:
            return "nothing to undo"
        except InvalidState:
            return "bad state"
        except InvalidThing:
            return "bad thing"
        except InvalidPosition:
            return "bad position"


def _takes(word, count):
    """Return True if the word is one of the table and takes so many integers."""
    if word not in _COUNTS:
        return False
    least, most = _COUNTS[word]
    return count >= least and (most is None or count <= most)


def _integer_in(word):
    """Return the integer that a word writes, or None if it is not written as in [61]."""
    if len(word) > _MOST_DIGITS or not (word.isascii() and word.isdigit()):
        return None
    number = int(word)
    return number if str(number) == word else None


def _integers_in(words):
    """Return the list of the integers that the words write, or None if a word writes none."""
    numbers = [_integer_in(word) for word in words]
    return None if None in numbers else numbers


def _pairs_in(words):
    """Return the list of the pairs of integers between the slashes, or None if the words have another form."""
    if not words:
        return []
    # With one more slash at the end, every pair has one behind it.
    closed = words + ["/"]
    if len(closed) % 3 != 0 or any([word != "/" for word in closed[2::3]]):
        return None
    first = _integers_in(closed[0::3])
    second = _integers_in(closed[1::3])
    if first is None or second is None:
        return None
    return list(zip(first, second))

"""The texts of walkers ([61])."""

from handwalk.errors import ParseError
from handwalk.networks import Network


def written(network, steps):
    """Return the text of a walker."""
    lines = [f"network {network.places}"]
    for u, v in network.passages:
        lines.append(f"passage {u} {v}")
    lines.append(" ".join(["walk"] + [str(step) for step in steps]))
    return "\n".join(lines)


def parsed(text, most_steps):
    """Return the network and the tuple of the steps of a text, or raise ParseError, for any value."""
    if not isinstance(text, str):
        raise ParseError(0, 0)
    lines = text.split("\n")
    places = _read_places(lines)
    passages, last = _read_passages(lines, places)
    network = Network(places, passages)
    steps = _read_steps(last, network, most_steps)
    Line(lines, len(passages) + 3).check_end()
    return network, steps


class Line:
    """One line of a text, whose words are read one after the other."""

    def __init__(self, lines, number):
        """Begin to read the line with this number, counted from 1; a line that is missing has no words."""
        self._number = number
        self._words = lines[number - 1].split(" ") if number <= len(lines) else []
        self._count = 0
        if "" in self._words:
            raise ParseError(number, 0)

    def has_more(self):
        """Return True if there are words that have not been read."""
        return self._count < len(self._words)

    def next_word(self, allowed):
        """Return the next word, which must be one of the allowed ones."""
        if not self.has_more() or self._words[self._count] not in allowed:
            raise ParseError(self._number, self._count + 1)
        self._count += 1
        return self._words[self._count - 1]

    def next_integer(self, allowed):
        """Return the integer that the next word writes, which must be one of the allowed ones."""
        return int(self.next_word([str(number) for number in allowed]))

    def check_end(self):
        """Raise ParseError if there are words that have not been read."""
        if self.has_more():
            raise ParseError(self._number, self._count + 1)


def _read_places(lines):
    line = Line(lines, 1)
    line.next_word(["network"])
    places = line.next_integer(list(range(1, Network.MAX_PLACES + 1)))
    line.check_end()
    return places


def _read_passages(lines, places):
    """Return the tuple of the passages, and the line behind them, in which the word "walk" has been read."""
    passages = []
    line = Line(lines, 2)
    while line.next_word(_first_words(places, passages)) == "passage":
        u = line.next_integer(list(range(places)))
        v = line.next_integer(list(range(u, places)))
        line.check_end()
        passages.append((u, v))
        line = Line(lines, len(passages) + 2)
    return tuple(passages), line


def _first_words(places, passages):
    """Return the list of the words with which a line behind these passages may begin."""
    words = []
    if len(passages) < Network.MAX_PASSAGES:
        words.append("passage")
    if Network.is_valid(places, tuple(passages)):
        words.append("walk")
    return words


def _read_steps(line, network, most_steps):
    steps = []
    place = 0
    while line.has_more():
        step = line.next_integer(network.passages_at(place) if len(steps) < most_steps else ())
        place = network.far_end(step, place)
        steps.append(step)
    return tuple(steps)

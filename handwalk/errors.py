"""The exceptions of the package.

Their messages never show the values that were passed: a value may have so many parts that its text has no end.
"""


class HandwalkError(ValueError):
    """The base class of all exceptions of the package."""


class InvalidNetwork(HandwalkError):
    """A network was asked for that breaks [10]."""

    def __init__(self, part, index=None):
        super().__init__("this is not a network")
        self.part = part
        self.index = index


class InvalidPlace(HandwalkError):
    """A value is not a place, or not the place that is needed here."""

    def __init__(self, value):
        super().__init__("this is not such a place")
        self.value = value


class InvalidPassage(HandwalkError):
    """A value is not a passage that can be used here."""

    def __init__(self, value):
        super().__init__("this is not such a passage")
        self.value = value


class InvalidState(HandwalkError):
    """A value is not a state of the network."""

    def __init__(self, part):
        super().__init__("this is not a state of the network")
        self.part = part


class InvalidWalk(HandwalkError):
    """An argument is not a step at the place where the walker is."""

    def __init__(self, index):
        super().__init__("this is not a walk in the network")
        self.index = index


class InvalidPermutation(HandwalkError):
    """A value is not a permutation."""

    def __init__(self, value):
        super().__init__("this is not a permutation")
        self.value = value


class SizeMismatch(HandwalkError):
    """Permutations of different sizes cannot be composed."""

    def __init__(self, sizes):
        super().__init__("the permutations have different sizes")
        self.sizes = sizes


class InvalidAnswer(HandwalkError):
    """A value is not a correct answer about a state."""

    def __init__(self, part):
        super().__init__("this is not a correct answer")
        self.part = part


class LimitExceeded(HandwalkError):
    """There are more states or steps than the limit allows."""

    def __init__(self, limit):
        super().__init__("there are more than the limit allows")
        self.limit = limit


class InvalidThing(HandwalkError):
    """A value is not a thing of the network."""

    def __init__(self, value):
        super().__init__("this is not a thing of the network")
        self.value = value


class InvalidPosition(HandwalkError):
    """A value is not a position of the network."""

    def __init__(self, value):
        super().__init__("this is not a position of the network")
        self.value = value


class InvalidKinds(HandwalkError):
    """A value does not give every thing or every position of the network a kind."""

    def __init__(self, part, index=None):
        super().__init__("these are not kinds for the network")
        self.part = part
        self.index = index


class NothingToUndo(HandwalkError):
    """A walker without steps is asked to take one back."""

    def __init__(self):
        super().__init__("there is no step to take back")


class ParseError(HandwalkError):
    """A value is not the text of a walker."""

    def __init__(self, line, word):
        super().__init__("this is not the text of a walker")
        self.line = line
        self.word = word

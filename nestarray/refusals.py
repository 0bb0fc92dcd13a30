"""The refusals: one error class for each, which knows the number that is answered."""


class Refusal(Exception):
    """What a call answers in the place of all else: a number below 0."""

    def __init__(self, number):
        self.number = number


class LongRefusal(Refusal):
    """A text has too many bytes."""

    def __init__(self):
        Refusal.__init__(self, -1)


class FormRefusal(Refusal):
    """A text isn't in form."""

    def __init__(self):
        Refusal.__init__(self, -2)


class BigRefusal(Refusal):
    """A number is too far from 0."""

    def __init__(self):
        Refusal.__init__(self, -3)


class ShapeRefusal(Refusal):
    """A shape isn't one, or doesn't go with the items."""

    def __init__(self):
        Refusal.__init__(self, -4)


class LimitRefusal(Refusal):
    """A value isn't within the limits."""

    def __init__(self):
        Refusal.__init__(self, -5)


class RankRefusal(Refusal):
    """A value hasn't the rank that a work asks for."""

    def __init__(self):
        Refusal.__init__(self, -6)


class IndexRefusal(Refusal):
    """A number of an index is beyond its extent."""

    def __init__(self):
        Refusal.__init__(self, -7)


class PathRefusal(Refusal):
    """A list of numbers isn't a path."""

    def __init__(self):
        Refusal.__init__(self, -8)


class AtomRefusal(Refusal):
    """A step goes from a number."""

    def __init__(self):
        Refusal.__init__(self, -9)


class UnevenRefusal(Refusal):
    """A value isn't vectors of vectors down to one depth."""

    def __init__(self):
        Refusal.__init__(self, -10)


class DataRefusal(Refusal):
    """A list of numbers isn't the flat lists of a value."""

    def __init__(self):
        Refusal.__init__(self, -11)


class KindRefusal(Refusal):
    """No work is told by a number."""

    def __init__(self):
        Refusal.__init__(self, -12)


class DomainRefusal(Refusal):
    """A length is below 0."""

    def __init__(self):
        Refusal.__init__(self, -13)

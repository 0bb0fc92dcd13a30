"""The refusals: one error class for each, which knows the number that is answered."""


class Refusal(Exception):
    """What a call answers in the place of all else: a number below 0."""

    def __init__(self, number):
        self.number = number


class LongRefusal(Refusal):
    """A text has too many bytes."""

    def __init__(self):
        Refusal.__init__(self, -1)


class FormRefusal(Refusal):
    """A text isn't in form."""

    def __init__(self):
        Refusal.__init__(self, -2)


class BigRefusal(Refusal):
    """A number is too far from 0."""

    def __init__(self):
        Refusal.__init__(self, -3)


class ShapeRefusal(Refusal):
    """A shape isn't one, or doesn't go with the items."""

    def __init__(self):
        Refusal.__init__(self, -4)


class LimitRefusal(Refusal):
    """A value isn't within the limits."""

    def __init__(self):
        Refusal.__init__(self, -5)


class RankRefusal(Refusal):
    """A value hasn't the rank that a work asks for."""

    def __init__(self):
        Refusal.__init__(self, -6)

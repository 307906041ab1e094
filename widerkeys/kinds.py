"""Kinds: the integers from a low end to a high one, 0 among them."""

from widerkeys.errors import BadBits, BadKind, BadNumber, BadText
from widerkeys.integers import greater, is_between, is_integer, lesser, read_integer

MOST_BITS = 56
MOST_DIGITS = 17


class Kind:
    """The integers from low to high."""

    def __init__(self, low, high):
        if not is_integer(low) or not is_integer(high) or not low <= 0 <= high:
            raise BadKind(low, high)
        self.low = low
        self.high = high
        self.size = high - low + 1

    @classmethod
    def signed(cls, bits):
        """The kind of the integers of so many bits, one of them the sign."""
        if not is_between(bits, 1, MOST_BITS):
            raise BadBits(bits)
        half = 1 << (bits - 1)
        return cls(-half, half - 1)

    @classmethod
    def unsigned(cls, bits):
        """The kind of the integers of so many bits, none below 0."""
        if not is_between(bits, 1, MOST_BITS):
            raise BadBits(bits)
        return cls(0, (1 << bits) - 1)

    @classmethod
    def digits(cls, many):
        """The kind of the integers of at most so many decimal digits, none below 0."""
        if not is_between(many, 1, MOST_DIGITS):
            raise BadBits(many)
        return cls(0, _power_of_ten(many) - 1)

    @classmethod
    def read(cls, text):
        """The kind of a text: `signed 8`, `unsigned 8`, `digits 3` or `-5..5`."""
        if not isinstance(text, str):
            raise BadText(text)
        word, _, many = text.partition(" ")
        low, _, high = text.partition("..")
        # What shows no integer is read as None, which no kind is made of.
        try:
            if word == "signed":
                return cls.signed(read_integer(many))
            if word == "unsigned":
                return cls.unsigned(read_integer(many))
            if word == "digits":
                return cls.digits(read_integer(many))
            return cls(read_integer(low), read_integer(high))
        except (BadBits, BadKind):
            raise BadText(text) from None

    def cut(self, number):
        """The number of this kind that differs from it by a multiple of the size."""
        if not is_integer(number):
            raise BadNumber(number)
        return self.low + (number - self.low) % self.size

    def __contains__(self, number):
        return is_between(number, self.low, self.high)

    def __eq__(self, other):
        return isinstance(other, Kind) and self.low == other.low and self.high == other.high

    def __le__(self, other):
        if not isinstance(other, Kind):
            return NotImplemented
        return other.low <= self.low and self.high <= other.high

    def __lt__(self, other):
        if not isinstance(other, Kind):
            return NotImplemented
        return self <= other and not self == other

    def __ge__(self, other):
        if not isinstance(other, Kind):
            return NotImplemented
        return other <= self

    def __gt__(self, other):
        if not isinstance(other, Kind):
            return NotImplemented
        return other < self

    def __and__(self, other):
        if not isinstance(other, Kind):
            return NotImplemented
        return Kind(greater(self.low, other.low), lesser(self.high, other.high))

    def __or__(self, other):
        if not isinstance(other, Kind):
            return NotImplemented
        return Kind(lesser(self.low, other.low), greater(self.high, other.high))

    def __str__(self):
        return f"{self.low}..{self.high}"


def _power_of_ten(many):
    power = 1
    for _ in range(many):
        power = power * 10
    return power

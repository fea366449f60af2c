"""Forms: how numbers are written down as words, with or without a width."""

from echobound.errors import BadForm, NoText, Unfit
from echobound.fractions import divided, is_whole, times, two_to
from echobound.rounding import is_manner, rounded

LEAST_WIDTH = 2
GREATEST_WIDTH = 64
GREATEST_POINT = 64
ENDS = ("wrap", "stop")
NEAREST_MANNERS = ("half", "even", "far")


def is_width(thing):
    return thing is None or (is_whole(thing) and LEAST_WIDTH <= thing <= GREATEST_WIDTH)


def is_point(thing):
    return is_whole(thing) and abs(thing) <= GREATEST_POINT


def is_ends(thing):
    return isinstance(thing, str) and thing in ENDS


class Form:
    """A width (None: without end), a point, a manner of rounding, and what is done at the ends."""

    def __init__(self, width=None, point=0, manner="half", ends="wrap"):
        if not is_width(width):
            raise BadForm("width")
        if not is_point(point):
            raise BadForm("point")
        if not is_manner(manner):
            raise BadForm("manner")
        if not is_ends(ends):
            raise BadForm("ends")
        self.width = width
        self.point = point
        self.manner = manner
        self.ends = ends

    def least(self):
        return None if self.width is None else -(1 << (self.width - 1))

    def greatest(self):
        return None if self.width is None else (1 << (self.width - 1)) - 1

    def has(self, thing):
        if not is_whole(thing):
            return False
        return self.width is None or self.least() <= thing <= self.greatest()

    def step(self):
        return two_to(-self.point)

    def slack(self):
        return (1, 2) if self.manner in NEAREST_MANNERS else (1, 1)

    def value(self, word):
        if not self.has(word):
            raise Unfit(0)
        return times((word, 1), self.step())

    def word_for(self, number):
        """The word as which a whole number of steps is kept."""
        if self.has(number):
            return number
        if self.ends == "stop":
            return self.least() if number < 0 else self.greatest()
        return (number - self.least()) % (1 << self.width) + self.least()

    def ended(self, number):
        """The word as which a whole number of steps is kept, and how far beyond it the number lies."""
        word = self.word_for(number)
        return (word, number - word)

    def kept(self, value):
        return self.ended(rounded(divided(value, self.step()), self.manner))

    def kept_at(self, number, point):
        """Like kept, of the value that a number at a point stands for."""
        if point <= self.point:
            return self.ended(number << (self.point - point))
        # Not in lowest terms, as rounding asks only for a bottom above 0.
        return self.ended(rounded((number, 1 << (point - self.point)), self.manner))

    def bits(self, word):
        if self.width is None or not self.has(word):
            raise Unfit(0)
        number = word if word >= 0 else word + (1 << self.width)
        text = f"{number:b}"
        return text.zfill(self.width)

    def is_bits(self, thing):
        """Whether a thing is the bits of some word of this form."""
        if self.width is None or not isinstance(thing, str) or len(thing) != self.width:
            return False
        return all([sign in "01" for sign in thing])

    def word_of(self, bits):
        if not self.is_bits(bits):
            raise NoText(0)
        number = 0
        for sign in bits:
            number = 2 * number + int(sign)
        return number if self.has(number) else number - (1 << self.width)

    def added(self, words):
        total = 0
        for at, word in enumerate(words):
            if not self.has(word):
                raise Unfit(at)
            total = self.word_for(total + word)
        return total

    def __eq__(self, other):
        return (isinstance(other, Form) and self.width == other.width and self.point == other.point
                and self.manner == other.manner and self.ends == other.ends)

    def __str__(self):
        if self.width is None:
            return f"free.{self.point} {self.manner} {self.ends}"
        return f"{self.width}.{self.point} {self.manner} {self.ends}"

    def __repr__(self):
        return f"Form({self.width}, {self.point}, {self.manner!r}, {self.ends!r})"

"""Exact fractions."""

from math import gcd

from spotheights.errors import BadNumber, ZeroDivisor

LONGEST_READ = 60
BLOCK_DIGITS = 64
BLOCK = 10 ** 64


class Ratio:
    """An exact fraction in lowest terms: the bottom is above 0, the top has the sign."""

    def __init__(self, top, bottom=1):
        if bottom == 0:
            raise ZeroDivisor("the bottom is zero")
        common = gcd(top, bottom)
        if bottom < 0:
            common = -common
        self.top = top // common
        self.bottom = bottom // common

    def __add__(self, other):
        if isinstance(other, int):
            return Ratio(self.top + other * self.bottom, self.bottom)
        if not isinstance(other, Ratio):
            return NotImplemented
        return Ratio(self.top * other.bottom + other.top * self.bottom, self.bottom * other.bottom)

    def __radd__(self, other):
        return self + other

    def __sub__(self, other):
        if isinstance(other, int):
            return Ratio(self.top - other * self.bottom, self.bottom)
        if not isinstance(other, Ratio):
            return NotImplemented
        return Ratio(self.top * other.bottom - other.top * self.bottom, self.bottom * other.bottom)

    def __rsub__(self, other):
        return -self + other

    def __mul__(self, other):
        if isinstance(other, int):
            return Ratio(self.top * other, self.bottom)
        if not isinstance(other, Ratio):
            return NotImplemented
        return Ratio(self.top * other.top, self.bottom * other.bottom)

    def __rmul__(self, other):
        return self * other

    def __neg__(self):
        return Ratio(-self.top, self.bottom)

    def __abs__(self):
        return Ratio(abs(self.top), self.bottom)

    def __eq__(self, other):
        if isinstance(other, int):
            return self.bottom == 1 and self.top == other
        return isinstance(other, Ratio) and self.top == other.top and self.bottom == other.bottom

    def __bool__(self):
        return bool(self.top)

    def __str__(self):
        if self.bottom == 1:
            return f"{written_integer(self.top)}"
        return f"{written_integer(self.top)}/{written_integer(self.bottom)}"

    def over(self, b):
        """This number divided by b, another one or an integer."""
        if isinstance(b, int):
            return Ratio(self.top, self.bottom * b)
        return Ratio(self.top * b.bottom, self.bottom * b.top)

    def sign(self):
        """-1, 0 or 1."""
        if self.top < 0:
            return -1
        return 1 if self.top > 0 else 0

    @staticmethod
    def read(text):
        """The number with this written form."""
        top, slash, bottom = text.removeprefix("-").partition("/")
        if not slash:
            bottom = "1"
        if not _is_count(top) or not _is_count(bottom) or int(bottom) == 0:
            raise BadNumber(text)
        size = Ratio(int(top), int(bottom))
        number = -size if text.startswith("-") else size
        # Each number has one written form, so this refuses -0, 4/2, 007 and the like.
        if str(number) != text:
            raise BadNumber(text)
        return number


def compare(first, second):
    """-1, 0 or 1 if the first number is less than, equal to, or greater than the second one."""
    return (first - second).sign()


def total(numbers):
    """The sum of a list of numbers."""
    # By halves: bottoms grow with each sum, so a long list takes far longer one by one.
    sums = list(numbers)
    while len(sums) > 1:
        pairs = [sums[k] + sums[k + 1] for k in range(0, len(sums) - 1, 2)]
        sums = [*pairs, *sums[2 * len(pairs):]]
    return sums[0] if sums else Ratio(0)


def written_integer(number):
    """The digits of an integer, with a minus sign if it is negative."""
    # Python's own str refuses integers of many thousands of digits, so blocks are cut off.
    if abs(number) < BLOCK:
        return str(number)
    blocks = [abs(number)]
    for power in _block_powers(abs(number))[::-1]:
        blocks = [half for block in blocks for half in divmod(block, power)]
    digits = "".join([str(block).zfill(BLOCK_DIGITS) for block in blocks]).lstrip("0")
    return f"-{digits}" if number < 0 else digits


def _block_powers(size):
    """One block's power of ten, its square, the square of that, .. as far as they are up to the size."""
    power = BLOCK
    powers = []
    while power <= size:
        powers.append(power)
        power = power * power
    return powers


def _is_count(text):
    """Whether the text has digits alone, and not too many of them."""
    return len(text) <= LONGEST_READ and text.isascii() and text.isdigit()

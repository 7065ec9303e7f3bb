"""Slopes and surds: the numbers (i + j r) / k, where r is the square root of a root."""

from math import gcd, isqrt

from rootfloor.errors import FieldsDiffer, InvalidNumber, InvalidRoot, InvalidSlope
from rootfloor.kinds import is_between, is_root


def is_slope(value):
    """Whether any value is a slope."""
    if not isinstance(value, tuple) or len(value) != 3:
        return False
    i, j, k = value
    return is_between(i, -9, 9) and is_between(j, -3, 3) and is_between(k, 1, 4)


def slope_text(slope):
    """The text of a slope, or of any integers (i, j, k) with k above 0."""
    i, j, k = slope
    text = _sum_text(i, j)
    if k == 1:
        return text
    if i != 0 and j != 0:
        return f"({text})/{_figures(k)}"
    return f"{text}/{_figures(k)}"


def _sum_text(i, j):
    if j == 0:
        return _figures(i)
    if i == 0:
        return _multiple_text(j)
    joint = "+" if j > 0 else ""
    return f"{_figures(i)}{joint}{_multiple_text(j)}"


def _multiple_text(j):
    if j == 1:
        return "r"
    if j == -1:
        return "-r"
    return f"{_figures(j)}r"


def _figures(number):
    # str refuses integers of more than 4300 digits, so great ones are cut into blocks.
    block = 10 ** 60
    texts = []
    rest = abs(number)
    while rest >= block:
        rest, low = divmod(rest, block)
        texts.append(str(low).zfill(60))
    texts.append(str(rest))
    sign = "-" if number < 0 else ""
    digits = "".join(texts[::-1])
    return f"{sign}{digits}"


class Surd:
    """The number (i + j r) / k, where r is the square root of the root."""

    def __init__(self, root, i, j=0, *, k=1):
        if not is_root(root):
            raise InvalidRoot(root)
        if k == 0:
            raise InvalidNumber(k)
        divisor = gcd(i, j, k)
        if k < 0:
            divisor = -divisor
        self._root = root
        self._parts = (i // divisor, j // divisor, k // divisor)

    @staticmethod
    def of_slope(root, slope):
        """The number that a slope stands for."""
        if not is_root(root):
            raise InvalidRoot(root)
        if not is_slope(slope):
            raise InvalidSlope(slope)
        i, j, k = slope
        return Surd(root, i, j, k=k)

    @property
    def root(self):
        return self._root

    def parts(self):
        """The tuple (i, j, k) with the least k above 0 that tells the number."""
        return self._parts

    def sign(self):
        """-1, 0 or 1 for a number below 0, for 0, and for one above 0."""
        i, j, _ = self._parts
        # t * abs(t) keeps the order of all t, and turns i and j r into integers.
        balance = i * abs(i) + self._root * j * abs(j)
        if balance > 0:
            return 1
        if balance < 0:
            return -1
        return 0

    def floor(self):
        """The greatest integer that is not greater."""
        i, j, k = self._parts
        multiple = isqrt(self._root * j * j)
        if j < 0:
            # j r is never an integer here, so its floor lies 1 lower.
            multiple = -multiple - 1
        return (i + multiple) // k

    def compared(self, other):
        """-1, 0 or 1 if the number is less than the other one, equal or greater."""
        difference = self - other
        return difference.sign()

    def text(self):
        """The text of the parts."""
        return slope_text(self._parts)

    def __add__(self, other):
        if not isinstance(other, Surd):
            return NotImplemented
        if self._root != other._root:
            raise FieldsDiffer()
        i, j, k = self._parts
        i2, j2, k2 = other._parts
        return Surd(self._root, i * k2 + i2 * k, j * k2 + j2 * k, k=k * k2)

    def __sub__(self, other):
        if not isinstance(other, Surd):
            return NotImplemented
        return self + -other

    def __mul__(self, other):
        if not isinstance(other, Surd):
            return NotImplemented
        if self._root != other._root:
            raise FieldsDiffer()
        i, j, k = self._parts
        i2, j2, k2 = other._parts
        return Surd(self._root, i * i2 + self._root * j * j2, i * j2 + j * i2, k=k * k2)

    def __neg__(self):
        i, j, k = self._parts
        return Surd(self._root, -i, -j, k=k)

    def __eq__(self, other):
        return isinstance(other, Surd) and self._root == other._root and self._parts == other._parts

    def __bool__(self):
        return bool(self.sign() != 0)

    def __repr__(self):
        return f"Surd({self.text()}, root {self._root})"


def floor_of(root, slope, whole):
    """The floor of a slope times any integer."""
    i, j, k = slope
    return Surd(root, i * whole, j * whole, k=k).floor()

"""Exact numbers: tuples (top, bottom) of whole numbers in lowest terms, the bottom from 1 on."""

from markscale.errors import NoNumber


def is_whole(thing):
    """Whether a thing is a whole number; a truth is none."""
    return isinstance(thing, int) and not isinstance(thing, bool)


def divisor_of(one, other):
    """The greatest whole number that divides both, of two that are not both 0."""
    high = abs(one)
    low = abs(other)
    while low:
        rest = high % low
        high = low
        low = rest
    return high


def is_number(thing):
    """Whether a thing is a number."""
    if not isinstance(thing, tuple) or len(thing) != 2:
        return False
    if not is_whole(thing[0]) or not is_whole(thing[1]):
        return False
    return thing[1] >= 1 and divisor_of(thing[0], thing[1]) == 1


def number(top, bottom=1):
    """The number that is top by bottom."""
    if not is_whole(top) or not is_whole(bottom):
        raise NoNumber("a number is made of two whole numbers")
    if bottom == 0:
        raise NoNumber("nothing is parted by 0")
    divisor = divisor_of(top, bottom)
    if bottom < 0:
        divisor = -divisor
    return (top // divisor, bottom // divisor)


def plus(one, other):
    """The sum of two numbers."""
    return number(one[0] * other[1] + other[0] * one[1], one[1] * other[1])


def minus(one, other):
    """The first number less the second one."""
    return number(one[0] * other[1] - other[0] * one[1], one[1] * other[1])


def times(one, other):
    """The product of two numbers."""
    return number(one[0] * other[0], one[1] * other[1])


def over(one, other):
    """The first number by the second one, which must not be 0."""
    return number(one[0] * other[1], one[1] * other[0])


def under(one, other):
    """Whether the first number is less than the second one."""
    return one[0] * other[1] < other[0] * one[1]


def floor_of(one):
    """The greatest whole number that is not above a number."""
    return one[0] // one[1]


def rounded(one):
    """The greatest whole number that is not above a number and a half more."""
    return (2 * one[0] + one[1]) // (2 * one[1])


def common_bottom(numbers):
    """The least bottom over which all numbers of a list can be written."""
    bottom = 1
    for one in numbers:
        bottom = bottom * one[1] // divisor_of(bottom, one[1])
    return bottom


def in_order(numbers):
    """The numbers of a list by size, as a new list."""
    # Over one bottom the tops alone tell which number is less.
    bottom = common_bottom(numbers)
    return sorted(numbers, key=lambda one: one[0] * (bottom // one[1]))

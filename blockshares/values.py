"""What is an integer, a list, a name or a size, and how fractions are reckoned.

A fraction is a pair (top, bottom) in lowest terms, with a bottom from 1 on.
"""

LETTERS = "abcdefghijklmnopqrstuvwxyz"
LONGEST_NAME = 8
NOTHING = (0, 1)


def is_integer(thing):
    """Whether any object is an integer."""
    return isinstance(thing, int) and not isinstance(thing, bool)


def is_list(thing):
    """Whether any object is a list, or a tuple in its place."""
    return isinstance(thing, (list, tuple))


def is_name(thing):
    """Whether any object is a name."""
    if not isinstance(thing, str) or not 1 <= len(thing) <= LONGEST_NAME:
        return False
    return all([letter in LETTERS for letter in thing])


def greatest_divisor(one, other):
    """The greatest integer that divides both, which are from 0 on and not both 0."""
    while other > 0:
        one, other = other, one % other
    return one


def fraction(top, bottom):
    """The pair in lowest terms; bottom is from 1 on."""
    divisor = greatest_divisor(abs(top), bottom)
    return (top // divisor, bottom // divisor)


def size_of(thing):
    """The size that an object tells, as a fraction, or None if it is none."""
    if is_integer(thing):
        return (thing, 1) if thing >= 0 else None
    if not is_list(thing) or len(thing) != 2:
        return None
    top, bottom = thing
    if not is_integer(top) or not is_integer(bottom) or top < 0 or bottom < 1:
        return None
    return fraction(top, bottom)


def plus(one, other):
    """The sum of two fractions."""
    return fraction(one[0] * other[1] + other[0] * one[1], one[1] * other[1])


def minus(one, other):
    """The one fraction less the other."""
    return plus(one, (-other[0], other[1]))


def times(one, other):
    """The product of two fractions."""
    return fraction(one[0] * other[0], one[1] * other[1])


def is_less(one, other):
    """Whether the one fraction is below the other."""
    return one[0] * other[1] < other[0] * one[1]


def sum_of(fractions):
    """The sum of a list of fractions."""
    total = NOTHING
    for each in fractions:
        total = plus(total, each)
    return total


def shortened(numbers):
    """The integers, each divided by the greatest one that divides them all."""
    divisor = 0
    for number in numbers:
        if number != 0:
            divisor = greatest_divisor(abs(number), divisor)
    return [number // divisor for number in numbers] if divisor > 1 else list(numbers)

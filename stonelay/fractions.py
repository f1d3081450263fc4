"""Fractions: tuples (top, bottom) of whole numbers in lowest terms, bottom from 1 on."""


def fraction(top, bottom):
    """The fraction of a whole number by one from 1 on."""
    divisor = greatest_divisor(top, bottom)
    return (top // divisor, bottom // divisor)


def greatest_divisor(number, bottom):
    """The greatest number that divides both, bottom being from 1 on."""
    divisor = bottom
    # A rest by a number above 0 is never below 0, so a number below 0 needs no care of its own.
    rest = number % bottom
    while rest != 0:
        next_rest = divisor % rest
        divisor = rest
        rest = next_rest
    return divisor

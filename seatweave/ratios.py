"""Ratios: tuples (a, b) of whole numbers, a from 0 on, b above 0, always in least numbers.

ratio(a, b) makes one of any two such numbers; times and over tell the product
and the quotient of two ratios, below whether the one is less than the other.
"""


def common_divisor(a, b):
    while b > 0:
        rest = a % b
        a = b
        b = rest
    return a


def ratio(a, b):
    divisor = common_divisor(a, b)
    return (a // divisor, b // divisor)


def times(one, other):
    return ratio(one[0] * other[0], one[1] * other[1])


def over(one, other):
    return ratio(one[0] * other[1], one[1] * other[0])


def below(one, other):
    return one[0] * other[1] < other[0] * one[1]

"""Polynomials over bits, told as masks."""

from sumwires.errors import BadMask
from sumwires.words import bits_of, is_mask

GREATEST_DEGREE = 16


def degree(poly):
    return poly.bit_length() - 1


def times(one, other):
    product = 0
    for place in bits_of(other):
        product = product ^ (one << place)
    return product


def divided(one, other):
    if other == 0:
        raise BadMask("nothing is divided by 0")
    quotient = 0
    rest = one
    while degree(rest) >= degree(other):
        place = degree(rest) - degree(other)
        quotient = quotient ^ (1 << place)
        rest = rest ^ (other << place)
    return (quotient, rest)


def common(one, other):
    while other != 0:
        rest = divided(one, other)[1]
        one = other
        other = rest
    return one


def check_poly(poly):
    if not is_mask(poly, GREATEST_DEGREE + 1) or poly < 2:
        raise BadMask("this is no polynomial of a degree from 1 to 16")


# What divides the rest when all lesser ones no longer do is no product: a part
# of it would be less, and would have divided.
def factors(poly):
    check_poly(poly)
    told = []
    rest = poly
    one = 2
    while 2 * degree(one) <= degree(rest):
        power = 0
        while divided(rest, one)[1] == 0:
            rest = divided(rest, one)[0]
            power = power + 1
        if power > 0:
            told.append((one, power))
        one = one + 1
    if rest != 1:
        told.append((rest, 1))
    return told


# Of a polynomial of whatever degree from 1 on whose bit 0 is set: the powers of x
# go round, and the first rest that comes again is 1.
def turns_to_one(poly):
    top = degree(poly)
    power = divided(2, poly)[1]
    turns = 1
    while power != 1:
        power = power << 1
        if degree(power) == top:
            power = power ^ poly
        turns = turns + 1
    return turns


def order_of(poly):
    check_poly(poly)
    if poly & 1 == 0:
        raise BadMask("bit 0 of this polynomial is not set")
    return turns_to_one(poly)

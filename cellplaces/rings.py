"""Tables that are turned in place: where the places go, and in which rings."""

from math import gcd, lcm

from cellplaces.checks import is_count, is_whole
from cellplaces.errors import InvalidNumber


def turned(rows, columns, place, times=1):
    """Where what lies at a place lies after so many turns."""
    check_place(rows, columns, place)
    if not is_count(times):
        raise InvalidNumber(times)
    last = rows * columns - 1
    if place == last:
        return place
    # The place r * columns + c, times the rows, is c * rows + r and r times the last place.
    return place * power(rows, times, last) % last


def ring_length(rows, columns, place):
    """The number of the places in the ring of a place."""
    check_place(rows, columns, place)
    last = rows * columns - 1
    if place == last:
        return 1
    found = 1
    for prime, many in factors(last // gcd(place, last)):
        found = lcm(found, order(rows, prime, many))
    return found


def rings(rows, columns):
    """The list of all lengths of rings, ascending, with the number of the rings of this length."""
    check_lengths(rows, columns)
    last = rows * columns - 1
    # The last place is a ring of its own.
    places = {1: 1}
    if last > 0:
        places = places_by_length(rows, last)
        places[1] = places[1] + 1
    return [(length, places[length] // length) for length in sorted(places)]


def check_lengths(rows, columns):
    """Raise the error for the first object that is no number of rows or columns."""
    for value in [rows, columns]:
        if not is_whole(value) or value < 1:
            raise InvalidNumber(value)


def check_place(rows, columns, place):
    """Raise the error for the first object that is no number of rows or columns, or no place."""
    check_lengths(rows, columns)
    if not is_count(place) or place >= rows * columns:
        raise InvalidNumber(place)


def places_by_length(rows, last):
    """How many places ahead of the last one lie in rings of each length."""
    found = {1: 1}
    for prime, many in factors(last):
        # Of the remainders by a power of a prime, these many go in rings of the length for a lesser power.
        parts = [(1, 1)]
        for exponent in range(1, many + 1):
            parts.append((order(rows, prime, exponent), units(prime, exponent)))
        grown = {}
        for length, places in found.items():
            for turn, share in parts:
                whole = lcm(length, turn)
                grown[whole] = grown.get(whole, 0) + places * share
        found = grown
    return found


def order(base, prime, exponent):
    """The least number of times, at least 1, that a factor has to be taken to leave 1 for a power of a prime."""
    found = units(prime, exponent)
    modulus = found // (prime - 1) * prime
    for part, _ in factors(found):
        while found % part == 0 and power(base, found // part, modulus) == 1:
            found = found // part
    return found


def units(prime, exponent):
    """How many remainders by this power of a prime, the exponent at least 1, share no factor with it."""
    found = prime - 1
    for _ in range(exponent - 1):
        found = found * prime
    return found


def factors(value):
    """The primes of a whole number of at least 1, ascending, with their exponents."""
    found = []
    prime = 2
    while prime * prime <= value:
        exponent = 0
        while value % prime == 0:
            value = value // prime
            exponent += 1
        if exponent > 0:
            found.append((prime, exponent))
        prime += 1
    if value > 1:
        found.append((value, 1))
    return found


def power(base, exponent, modulus):
    """The remainder of a power, by squares: the exponent may have many digits."""
    found = 1
    while exponent > 0:
        if exponent % 2 == 1:
            found = found * base % modulus
        base = base * base % modulus
        exponent = exponent // 2
    return found

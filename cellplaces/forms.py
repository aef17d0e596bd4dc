"""Forms: polynomials in letters whose coefficients are fractions."""

from math import gcd, lcm

from cellplaces.checks import is_letter, is_values, is_whole
from cellplaces.errors import InvalidForm, InvalidLetter, InvalidNumber, InvalidValues


class Form:
    """A polynomial in letters; made by `letter`, `number` and what is worked out from them.

    The parts lead from the sorted letters of a term, a tuple, to its
    coefficient (numerator, denominator), which is in lowest terms and not 0.
    So equal polynomials always have equal parts.
    """

    def __init__(self, parts):
        self._parts = parts

    def __add__(self, other):
        right = right_side(other)
        parts = {names: self._parts[names] for names in self._parts}
        for names, worth in right._parts.items():
            parts[names] = fraction_sum(parts.get(names, (0, 1)), worth)
        return Form(without_noughts(parts))

    def __sub__(self, other):
        return self + (-right_side(other))

    def __mul__(self, other):
        right = right_side(other)
        parts = {}
        for mine, worth in self._parts.items():
            for its, factor in right._parts.items():
                names = tuple(sorted(mine + its))
                grown = fraction_product(worth, factor)
                parts[names] = fraction_sum(parts.get(names, (0, 1)), grown)
        return Form(without_noughts(parts))

    def __neg__(self):
        return Form({names: (-top, bottom) for names, (top, bottom) in self._parts.items()})

    def __eq__(self, other):
        return isinstance(other, Form) and self._parts == other._parts

    def over(self, divisor):
        """The form divided by a whole number other than 0."""
        if not is_whole(divisor) or divisor == 0:
            raise InvalidNumber(divisor)
        factor = lowest(1, divisor)
        return Form({names: fraction_product(worth, factor) for names, worth in self._parts.items()})

    def terms(self):
        """The sorted list of the terms (numerator, denominator, letters)."""
        order = sorted(list(self._parts), key=lambda names: (len(names), names))
        return [(*self._parts[names], list(names)) for names in order]

    def letters(self):
        """The sorted list of all letters, each one once."""
        return sorted({name for names in self._parts for name in names})

    def degree(self):
        """The greatest number of letters in a term."""
        return max([len(names) for names in self._parts], default=0)

    def at(self, values):
        """The value for these values of the letters, or None if it is no whole number."""
        if not is_values(values, self.letters()):
            raise InvalidValues(values)
        # One denominator for all terms: the sums in between need no lowest terms then.
        common = 1
        for _, bottom in self._parts.values():
            common = lcm(common, bottom)
        total = 0
        for names, (top, bottom) in self._parts.items():
            total = total + top * (common // bottom) * product_at(names, values)
        return total // common if total % common == 0 else None

    def put(self, name, other):
        """The form in which another form stands for a letter."""
        if not is_letter(name):
            raise InvalidLetter(name)
        if not isinstance(other, Form):
            raise InvalidForm(other)
        # From the highest power down: what cancels out does so before it grows.
        found = Form({})
        for part in reversed(self.by_powers(name)):
            found = found * other + part
        return found

    def by_powers(self, name):
        """The list of the forms that are multiplied by the powers 0, 1, .. of a letter."""
        highest = max([names.count(name) for names in self._parts], default=0)
        shares = [{} for _ in range(highest + 1)]
        for names, worth in self._parts.items():
            rest = tuple([kept for kept in names if kept != name])
            shares[names.count(name)][rest] = worth
        return [Form(share) for share in shares]


def letter(name):
    """The form that is this letter."""
    if not is_letter(name):
        raise InvalidLetter(name)
    return Form({(name,): (1, 1)})


def number(value):
    """The form that is this whole number."""
    if not is_whole(value):
        raise InvalidNumber(value)
    return Form(without_noughts({(): (value, 1)}))


def product_form(names):
    """The form that is the product of these letters."""
    return Form({tuple(sorted(names)): (1, 1)})


def right_side(other):
    """What stands on the right side of a sign, as a form."""
    if is_whole(other):
        return number(other)
    if not isinstance(other, Form):
        raise InvalidForm(other)
    return other


def without_noughts(parts):
    """The parts without those whose coefficient is 0."""
    return {names: worth for names, worth in parts.items() if worth[0] != 0}


def product_at(names, values):
    """The product of the values of these letters."""
    found = 1
    for name in names:
        found = found * values[name]
    return found


def lowest(top, bottom):
    """The fraction in lowest terms, with a denominator of at least 1."""
    shared = gcd(top, bottom) if bottom > 0 else -gcd(top, bottom)
    return (top // shared, bottom // shared)


def fraction_sum(one, other):
    """The sum of two fractions."""
    return lowest(one[0] * other[1] + other[0] * one[1], one[1] * other[1])


def fraction_product(one, other):
    """The product of two fractions."""
    return lowest(one[0] * other[0], one[1] * other[1])

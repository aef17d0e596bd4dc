"""Walks of plain tables: how far they jump, and which of them go through the same places."""

from cellplaces.checks import is_letter
from cellplaces.errors import InvalidLetter, InvalidSides, InvalidWalk
from cellplaces.forms import number, product_at, product_form
from cellplaces.plain import Plain, check_table, hole, is_sides, names_of, own_order


def jumps(table, walk):
    """For each side, the innermost first, its name, how far the place grows with its index, and how often."""
    check_table(table)
    check_walk(walk, table)
    sides = inside_out(table, walk)
    found = []
    back = number(0)
    for at, (name, size, step) in enumerate(sides):
        around = [part for side in sides[at + 1:] for part in side[1]]
        often = product_form(around + size) - product_form(around)
        found.append((name, product_form(step) - back, often))
        back = back + product_form(step + size) - product_form(step)
    return found


def smooth(table):
    """A walk in which each step goes to the next place, or None."""
    order = own_order(table)
    if order is None or hole(table) is not None:
        return None
    single = [name for name in names_of(table.sides()) if name not in order]
    return single + order[::-1]


def kept(table, size):
    """How many cells keep their place if this size letter grows by 1."""
    check_table(table)
    if size not in table.sizes():
        raise InvalidLetter(size)
    # A step with this letter grows: the place stays only where its index is 0.
    return product_form([part for side in table.sides() if size not in side[2] for part in side[1]])


def arranged(sides, size):
    """A full plain table with these names and sizes whose cells keep their places if the letter grows, or None."""
    if not is_sides(sides, 1):
        raise InvalidSides(sides)
    if not is_letter(size):
        raise InvalidLetter(size)
    # Each size stands in all greater steps: only the greatest step may belong to a side that grows.
    growing = [side for side in sides if size in side[1]]
    if len(growing) > 1:
        return None
    steps = {}
    step = []
    for name, length in [side for side in sides if size not in side[1]] + growing:
        steps[name] = step
        step = step + length
    return Plain([(name, length, steps[name]) for name, length in sides])


def joined(table, walk):
    """The sizes and steps, the innermost first, that are left if neighbours that continue each other are made one."""
    check_table(table)
    check_walk(walk, table)
    found = []
    for size, step in [side[1:] for side in inside_out(table, walk) if len(side[1]) > 0]:
        if len(found) > 0 and sorted(found[-1][0] + found[-1][1]) == step:
            inner, start = found.pop()
            found.append((sorted(inner + size), start))
        else:
            found.append((size, step))
    return found


def same_run(table, walk, other, route):
    """Values and a position at which the runs of two walks are unlike, or None."""
    one = joined(table, walk)
    two = joined(other, route)
    if one == two:
        return None
    values = primes(sorted(set(table.sizes() + other.sizes())))
    return (values, first_unlike(one, two, values))


def check_walk(walk, table):
    """Raise the error for an object that is no walk of this table."""
    if not isinstance(walk, list) or not all([is_letter(name) for name in walk]):
        raise InvalidWalk(walk)
    if sorted(walk) != sorted(names_of(table.sides())):
        raise InvalidWalk(walk)


def inside_out(table, walk):
    """The sides in the order of a walk, the innermost first."""
    sides = {side[0]: side for side in table.sides()}
    return [sides[name] for name in reversed(walk)]


def primes(names):
    """A prime of its own for each of these letters: unlike products have unlike values then."""
    values = {}
    worth = 2
    for name in names:
        while any([worth % prime == 0 for prime in values.values()]):
            worth = worth + 1
        values[name] = worth
    return values


def first_unlike(one, two, values):
    """The first position at which the runs of two unlike joined lists are unlike, for the values of `primes`."""
    done = 1
    for (size, step), (length, stride) in zip(one, two):
        if step != stride:
            return done
        # Where the shorter of two sides ends, its run goes on with another step, as its neighbours are joined.
        done = done * min(product_at(size, values), product_at(length, values))
        if size != length:
            return done
    return done

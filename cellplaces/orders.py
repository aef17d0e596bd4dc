"""The same cells in another order, and shapes that are laid one behind the other."""

from cellplaces.errors import InvalidShape, MismatchedShapes
from cellplaces.forms import letter, number
from cellplaces.places import count, place
from cellplaces.shapes import Shape, check_shape, point_below_one


def same_cells(one, other):
    """Values and a point that is a cell of just one of two shapes with the same names, or None."""
    check_shape(one)
    check_shape(other)
    if sorted(one.names()) != sorted(other.names()):
        raise MismatchedShapes()
    sizes = sorted(set(one.sizes() + other.sizes()))
    found = cell_outside(one, other, sizes)
    return cell_outside(other, one, sizes) if found is None else found


def cell_outside(one, other, sizes):
    """Values and a point that is a cell of one shape and none of the other, or None."""
    for name, low, high in other.loops():
        index = letter(name)
        # A cell of one shape alone breaks a bound of the other: there this bound's form is less than 1.
        for form in [index - low + 1, high - index]:
            found = point_below_one(one.loops(), sizes, form)
            if found is not None:
                values, cell = found
                return (values, dict(zip(one.names(), cell)))
    return None


def laid(shapes):
    """The list of the places if these shapes are laid one behind the other."""
    if not is_shapes(shapes):
        raise InvalidShape(shapes)
    if any([shape.names() != shapes[0].names() for shape in shapes]):
        raise MismatchedShapes()
    forms = []
    ahead = number(0)
    for shape in shapes:
        forms.append(place(shape) + ahead)
        ahead = ahead + count(shape)
    return forms


def is_shapes(shapes):
    """Tell whether an object is a list of shapes, not empty."""
    if not isinstance(shapes, list) or len(shapes) == 0:
        return False
    return all([isinstance(shape, Shape) for shape in shapes])

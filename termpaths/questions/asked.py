"""What is asked about a point: an equality or a shape, as what is wanted there."""

from termpaths.base.checks import check_closed_term
from termpaths.base.rows import shared, with_holes
from termpaths.errors import InvalidOperation
from termpaths.patterns.patterns import Pattern, check_pattern, shape_of
from termpaths.patterns.shapes import matched
from termpaths.patterns.solving import demanded_shape
from termpaths.programs.programs import check_point, check_program
from termpaths.programs.runs import entry_pattern


def check_equality(program, point, e, f):
    """Raise an error for what is not a program, a point of it and two terms over its names."""
    check_program(program)
    check_point(program, point)
    check_closed_term(program[0], e)
    check_closed_term(program[0], f)


def start_of_equality(program, point, e, f, entry):
    """Return the entry pattern for a question about an equality, or raise the error of what is passed."""
    check_equality(program, point, e, f)
    return entry_pattern(program, entry)


def start_of_shape(program, point, shape, entry):
    """Return the entry pattern for a question about a shape, or raise the error of what is passed."""
    check_program(program)
    check_point(program, point)
    check_pattern(shape)
    if not all([name in program[0] for name in shape.names]):
        raise InvalidOperation("a name of the shape is no name of the program")
    return entry_pattern(program, entry)


def wanted_by_equality(program, e, f):
    """Return the shape of all values for which two terms are equal, or None."""
    names = program[0]
    return demanded_shape(Pattern.free(*names), ((e, f),))


def wanted_by_shape(program, shape):
    """Return a shape with all names of the program, which have values as told, or a hole of their own."""
    told = shape.places
    rows, fresh = with_holes(shape.rows, [name for name in program[0] if name not in told])
    return shared(rows, [told[name] if name in told else fresh[name] for name in program[0]])


def fits_shape(shape, rows, places):
    """Tell whether the values at the places of names, for the names of a shape alone, are an instance of it."""
    _, spots = shape_of(shape)
    return matched(shape.rows, spots, rows, [places[name] for name in shape.names]) is not None

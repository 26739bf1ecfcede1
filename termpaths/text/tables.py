"""Texts of tables."""

from termpaths.errors import InvalidTable
from termpaths.tables.tables import is_table
from termpaths.text.formats import format_pattern


def table_text(program, value):
    """Return the text of a table of a program."""
    if not is_table(program, value):
        raise InvalidTable("not a table of the program")
    return "\n".join([f"{point:>3}: {format_pattern(value[point])}" for point in sorted(set(value))])

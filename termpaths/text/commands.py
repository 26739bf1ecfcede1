"""Commands: the words of a shell, and the values that the parts of a command tell."""

from termpaths.base.terms import is_name
from termpaths.errors import InvalidCommand, ParseError
from termpaths.text.formats import parse_edge, parse_pattern, parse_program, parse_term
from termpaths.text.reading import number_of

# The last part of a form takes the rest of the command, if it is one of these.
RESTS = ("program", "pattern", "edge", "term", "equality", "outputs")
FORMS = {
    "put": ("name", "program"), "enter": ("name", "pattern"), "remove": ("name",), "rename": ("name", "name"),
    "edge": ("name", "edge"), "cut": ("name", "number"), "optimize": ("name", "name", "outputs"),
    "equal": ("name", "number", "equality"), "height": ("name", "number", "name", "number"), "drop": ("number",),
    "undo": ("number",), "redo": ("number",), "show": ("name",), "names": (), "status": (),
    "holds": ("name", "number", "equality"), "failing": ("name", "number", "equality"),
    "weakest": ("name", "number", "equality"), "state": ("name", "number"), "greatest": ("name", "number", "name"),
    "cheapest": ("name", "number", "term"), "needed": ("name", "outputs"),
}


def taken_apart(command):
    """Return the word of a command and the list of the values of its parts."""
    if not isinstance(command, str):
        raise InvalidCommand("not a string")
    words = command.split(" ")
    word = words[0]
    if word not in FORMS:
        raise InvalidCommand("not a command word")
    form = FORMS[word]
    many = len(form)
    if many > 0 and form[many - 1] in RESTS:
        if len(words) <= many:
            raise InvalidCommand("fewer words than the form has")
        words = [*words[:many], " ".join(words[many:])]
    if len(words) != many + 1:
        raise InvalidCommand("not as many words as the form has")
    return word, [_value_of(form[k], words[k + 1]) for k in range(many)]


def _value_of(kind, text):
    """Return the value that a part of a command tells."""
    if kind == "name":
        return _read_name(text)
    if kind == "number":
        return number_of(text)
    if kind == "program":
        return _read_program(text)
    if kind == "pattern":
        return parse_pattern(text)
    if kind == "edge":
        return parse_edge(text)
    if kind == "term":
        return parse_term(text)
    if kind == "equality":
        return _read_equality(text)
    return tuple([_read_output(word) for word in text.split(" ")])


def _read_name(text):
    if not is_name(text):
        raise ParseError("not a name")
    return text


def _read_program(text):
    """Return the program of a text with other signs in place of newlines."""
    if "\n" in text:
        raise ParseError("a newline in a program")
    return parse_program(text.replace(" / ", "\n"))


def _read_equality(text):
    first, _, second = text.partition(" = ")
    return parse_term(first), parse_term(second)


def _read_output(text):
    point, _, name = text.partition(".")
    return number_of(point), _read_name(name)

"""Templates as texts."""

from templates.checks import MOST_PLACES, MOST_VALUES
from templates.errors import InvalidText, NotText
from templates.structures import MOST_RELATIONS, check_template

DIGITS = "0123"


def write(template):
    """The text of a template."""
    check_template(template)
    size, relations = template
    lines = [f"size {size}"]
    for arity, rows in relations:
        words = ["".join([str(value) for value in row]) for row in rows]
        lines.append(" ".join(["relation", str(arity)] + words))
    return "\n".join(lines)


def read(text):
    """The template of a text."""
    if not isinstance(text, str):
        raise NotText("a text is a string")
    lines = [_words(line) for line in text.split("\n")]
    size = _read_size(lines[0])
    relations = []
    for number, words in enumerate(lines[1:], start=2):
        if len(relations) == MOST_RELATIONS:
            raise InvalidText(number, 1)
        relations.append(_read_relation(size, number, words))
    return (size, tuple(relations))


def _words(line):
    return [word for word in line.split(" ") if word != ""]


def _read_size(words):
    """The size that the words of the first line tell."""
    if words[:1] != ["size"]:
        raise InvalidText(1, 1)
    size = _number(words[1:2], MOST_VALUES)
    if size is None:
        raise InvalidText(1, 2)
    if len(words) > 2:
        raise InvalidText(1, 3)
    return size


def _read_relation(size, line, words):
    """The relation that the words of a later line tell."""
    if words[:1] != ["relation"]:
        raise InvalidText(line, 1)
    arity = _number(words[1:2], MOST_PLACES)
    if arity is None:
        raise InvalidText(line, 2)
    rows = set()
    for at, word in enumerate(words[2:], start=3):
        row = _read_row(size, arity, word)
        if row is None or row in rows:
            raise InvalidText(line, at)
        rows.add(row)
    return (arity, tuple(sorted(rows)))


def _number(words, most):
    """The integer from 1 to most that the only word tells, None if it tells none."""
    for number in range(1, most + 1):
        if words == [str(number)]:
            return number
    return None


def _read_row(size, arity, word):
    """The row that a word writes, None if it writes none."""
    if len(word) != arity or not all(sign in DIGITS[:size] for sign in word):
        return None
    return tuple([int(sign) for sign in word])

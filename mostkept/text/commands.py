"""Commands of the shell: what a line asks for."""

from mostkept.base.rows import is_name
from mostkept.text.words import is_amount_text, read_indices, read_names, read_rule, read_scale, read_values, read_whole

MOST_LEVELS = 20


def read_command(line):
    """Return the word, the name and the arguments of a command, or None if the line is not one."""
    if line == "names":
        return (line, None, ())
    words = line.split(" ", 2) if isinstance(line, str) else []
    if len(words) < 2 or words[0] not in READERS or not is_name(words[1]):
        return None
    reader = READERS[words[0]]
    # No command ends in a blank, so nothing is behind the name just where there are no more words.
    given = reader(words[2] if len(words) == 3 else None)
    return None if given is None else (words[0], words[1], given)


def _read_nothing(text):
    return () if text is None else None


def _read_new(text):
    """Return a scale and columns, or None."""
    if text is None:
        return None
    words = text.split(" ")
    many = 2 if words[0] == "classes" else 1
    given = (read_scale(" ".join(words[:many])), read_names(" ".join(words[many:])))
    return None if given[0] is None or given[1] is None else given


def _read_copy(text):
    return (text,) if is_name(text) else None


def _read_row(text):
    """Return the values of a row and the text of its weight or None, or None."""
    if text is None:
        return None
    values, sign, weight = text.partition(" @ ")
    row = read_values(values)
    if row is None or sign != "" and not is_amount_text(weight):
        return None
    return (row, weight if sign != "" else None)


def _read_drop(text):
    number = None if text is None else read_whole(text)
    return None if number is None or number < 0 else (number,)


def _read_weight(text):
    """Return an index and the text of a weight, or None."""
    if text is None:
        return None
    number, _, weight = text.partition(" ")
    index = _read_drop(number)
    return index + (weight,) if index is not None and is_amount_text(weight) else None


def _read_rule(text):
    return None if text is None else read_rule(text)


def _read_wish(text):
    """Return the rows that must stay and those that must go, or None."""
    if text is None:
        return ((), ())
    stay, sign, go = (text + " ").partition("without ")
    given = (_read_side(stay, "with "), _read_side(sign + go, "without "))
    return None if given[0] is None or given[1] is None else given


def _read_side(text, word):
    """Return the rows that are told behind a word and in front of a blank, none for no text, or None."""
    if text == "":
        return ()
    return read_indices(text[len(word):-1]) if text.startswith(word) and text.endswith(" ") else None


def _read_levels(text):
    number = None if text is None else read_whole(text)
    return (number,) if number is not None and 1 <= number <= MOST_LEVELS else None


READERS = {
    "new": _read_new, "copy": _read_copy, "forget": _read_nothing,
    "row": _read_row, "drop": _read_drop, "weight": _read_weight, "rule": _read_rule, "unrule": _read_rule,
    "undo": _read_nothing, "redo": _read_nothing,
    "table": _read_nothing, "rules": _read_nothing, "order": _read_nothing, "conflicts": _read_nothing,
    "bound": _read_nothing, "loss": _read_wish, "keep": _read_nothing, "kinds": _read_nothing, "levels": _read_levels,
}

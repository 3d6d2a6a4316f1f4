"""Texts of small values; what reads one returns None if the text is not just that of such a value."""

from mostkept.base.checks import ROW_LIMIT, is_ascending, is_index
from mostkept.base.rows import is_columns, is_name
from mostkept.base.scales import MAX_SIZE, Scale

DIGITS = "0123456789"
MOST_DIGITS = 4000
# Python itself refuses to write or read integers with many digits at once.
PIECE_DIGITS = 60
PIECE = 10 ** 60


def write_whole(number):
    """Return the text of an integer."""
    pieces = []
    left = abs(number)
    while left >= PIECE:
        left, low = divmod(left, PIECE)
        pieces.append(str(low).zfill(PIECE_DIGITS))
    pieces.append(str(left))
    return ("-" if number < 0 else "") + "".join(pieces[::-1])


def read_whole(text):
    """Return the integer."""
    digits = text[1:] if text.startswith("-") else text
    if not 1 <= len(digits) <= MOST_DIGITS or not all([sign in DIGITS for sign in digits]):
        return None
    if digits.startswith("0") and text != "0":
        return None
    return int(text)


def write_names(columns):
    """Return the text of columns."""
    return " ".join(columns) if len(columns) > 0 else "-"


def read_names(text):
    """Return the columns."""
    columns = () if text == "-" else tuple(text.split(" "))
    return columns if is_columns(columns) else None


def _write_wholes(numbers, sign):
    return sign.join([write_whole(number) for number in numbers])


def _read_wholes(text, sign):
    numbers = tuple([read_whole(word) for word in text.split(sign)])
    return None if any([number is None for number in numbers]) else numbers


def write_values(values):
    """Return the text of a tuple of integers."""
    return "-" if values == () else _write_wholes(values, " ")


def read_values(text):
    """Return the tuple of integers."""
    return () if text == "-" else _read_wholes(text, " ")


def write_indices(indices):
    """Return the text of a keep."""
    return "none" if indices == () else _write_wholes(indices, " ")


def read_indices(text):
    """Return the indices of a keep, which ascend and can be as great as they like."""
    indices = () if text == "none" else _read_wholes(text, " ")
    if indices is None or not is_ascending(indices) or any([index < 0 for index in indices]):
        return None
    return indices


def are_keep_indices(value):
    """Return whether the value has the form of a keep of some table."""
    return isinstance(value, tuple) and all([is_index(one, ROW_LIMIT) for one in value]) and is_ascending(value)


def write_amount(scale, amount):
    """Return the text of an amount."""
    if scale.word == "sums":
        return write_whole(amount)
    return _write_wholes(amount, ":" if scale.word == "odds" else "/")


def read_amount(scale, text):
    """Return the amount."""
    if scale.word == "sums":
        return read_whole(text)
    amount = _read_wholes(text, ":" if scale.word == "odds" else "/")
    return amount if scale.is_amount(amount) else None


def is_amount_text(text):
    """Return whether this is the text of an amount of some scale."""
    scales = [Scale.sums(), Scale.odds()] + [Scale.classes(size + 1) for size in range(MAX_SIZE)]
    return any([read_amount(scale, text) is not None for scale in scales])


def write_scale(scale):
    """Return the text of a scale."""
    return f"classes {scale.size}" if scale.word == "classes" else scale.word


def read_scale(text):
    """Return the scale."""
    if text == "sums":
        return Scale.sums()
    if text == "odds":
        return Scale.odds()
    size = read_whole(text[8:]) if text.startswith("classes ") else None
    return Scale.classes(size) if size is not None and 1 <= size <= MAX_SIZE else None


def write_rule(rule):
    """Return the text of a rule."""
    return write_names(rule[0]) + " -> " + write_names(rule[1])


def read_rule(text):
    """Return the rule."""
    left, _, right = text.partition(" -> ")
    rule = (read_names(left), read_names(right))
    return None if rule[0] is None or rule[1] is None or rule[1] == () else rule


def is_step_form(value):
    """Return whether the value has the form of a step."""
    if not isinstance(value, tuple):
        return False
    if len(value) == 3 and value[0] == "pair":
        return is_columns(value[1]) and is_columns(value[2])
    return len(value) == 2 and value[0] in ("common", "fixed") and is_name(value[1])


def write_step(step):
    """Return the text of a step."""
    if step[0] == "pair":
        return "pair " + write_names(step[1]) + " / " + write_names(step[2])
    return " ".join(step)


def read_step(text):
    """Return the step."""
    word, _, rest = text.partition(" ")
    if word == "pair":
        left, _, other = rest.partition(" / ")
        step = (word, read_names(left), read_names(other))
    else:
        step = (word, rest)
    return step if is_step_form(step) else None


def are_steps_form(value):
    """Return whether the value is a tuple of what has the form of steps."""
    return isinstance(value, tuple) and all([is_step_form(step) for step in value])


def write_steps(steps):
    """Return the text of steps."""
    return "no steps" if steps == () else " ; ".join([write_step(step) for step in steps])


def read_steps(text):
    """Return the steps."""
    steps = () if text == "no steps" else tuple([read_step(one) for one in text.split(" ; ")])
    return None if any([step is None for step in steps]) else steps

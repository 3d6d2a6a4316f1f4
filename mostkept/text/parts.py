"""Texts of the parts of keep papers.

A part is written in lines. What belongs to a line stands below it, with two blanks more in front.
"""

from mostkept.base.checks import are_whole, is_ascending, is_whole
from mostkept.base.rows import is_columns, is_name
from mostkept.text.words import read_amount, read_step, read_values, read_whole, write_amount, write_step, write_values
from mostkept.text.words import write_whole

MOST_DEEP = 9


def is_part_form(scale, value, deep=MOST_DEEP):
    """Return whether the value has the form of a part in which parts lie at most so deep in one another."""
    if not isinstance(value, tuple) or len(value) == 0 or deep == 0:
        return False
    if value == ("all",):
        return True
    if value[0] == "common" and len(value) == 3:
        right = is_name(value[1]) and _has_whole_keys(value[2])
    elif value[0] == "fixed" and len(value) == 4:
        right = is_name(value[1]) and _has_whole_keys(value[3]) and _is_value_of(value[2], value[3])
    elif value[0] == "pair" and len(value) == 7:
        right = is_columns(value[1]) and is_columns(value[2]) and _is_pair_form(scale, value)
    else:
        return False
    return right and all([is_part_form(scale, part, deep - 1) for part in value[-1].values()])


def _has_whole_keys(value):
    return isinstance(value, dict) and all([is_whole(key) for key in value])


def _is_value_of(value, parts):
    """Return whether the value is a key of the parts, or None if there are none."""
    if len(parts) == 0:
        return value is None
    return is_whole(value) and value in parts


def _is_pair_form(scale, value):
    """Return whether all that stands behind the two sides of a pair has the form that they ask for."""
    _, left, other, pairs, prices, others, parts = value
    if not _are_prices_form(scale, prices, len(left)) or not _are_prices_form(scale, others, len(other)):
        return False
    if not isinstance(parts, dict) or not all([_is_key(key, len(left), len(other)) for key in parts]):
        return False
    if not isinstance(pairs, tuple) or not all([_is_key(pair, len(left), len(other)) for pair in pairs]):
        return False
    return is_ascending(pairs) and all([pair in parts for pair in pairs])


def _is_key(value, many, others):
    """Return whether the value is a pair of tuples of so many integers."""
    return isinstance(value, tuple) and len(value) == 2 and are_whole(value[0], many) and are_whole(value[1], others)


def _are_prices_form(scale, value, many):
    """Return whether the value is a dict from tuples of so many integers to amounts."""
    if not isinstance(value, dict) or not all([are_whole(key, many) for key in value]):
        return False
    return all([scale.is_amount(price) for price in value.values()])


def part_lines(scale, part):
    """Return the lines of a part."""
    if part == ("all",):
        return ["all"]
    below = []
    if part[0] == "pair":
        below.extend([f"left {_written_price(scale, key, part[4])}" for key in sorted(part[4])])
        below.extend([f"other {_written_price(scale, key, part[5])}" for key in sorted(part[5])])
    parts = part[-1]
    for key in sorted(parts):
        below.append(_key_line(part, key))
        below.extend(_further_in(part_lines(scale, parts[key])))
    return [_first_line(part)] + _further_in(below)


def _further_in(lines):
    return ["  " + line for line in lines]


def _first_line(part):
    if part[0] == "pair":
        return write_step(part[:3])
    if part[0] == "common":
        return write_step(part[:2])
    return write_step(part[:2]) + " " + ("-" if part[2] is None else write_whole(part[2]))


def _written_price(scale, key, prices):
    return write_values(key) + " = " + write_amount(scale, prices[key])


def _key_line(part, key):
    """Return the line below which the part of a key stands."""
    if part[0] != "pair":
        return f"of {write_whole(key)}"
    word = "stays" if key in part[3] else "of"
    return f"{word} {write_values(key[0])} / {write_values(key[1])}"


def read_part(scale, lines):
    """Return the part that lines tell if they are the lines of a part; otherwise anything that has other lines."""
    nodes = _nodes(lines)
    return _read_node(scale, nodes[0], MOST_DEEP) if len(nodes) == 1 else None


def _nodes(lines):
    """Return pairs of a line and such pairs for the lines that belong to it."""
    first = []
    # The lists of the pairs that stand below the last line, one for each number of blanks.
    open_lists = [first]
    for line in lines:
        text = line.lstrip(" ")
        depth = (len(line) - len(text)) // 2
        if depth >= len(open_lists):
            return []
        below = []
        open_lists[depth].append((text, below))
        open_lists = open_lists[:depth + 1] + [below]
    return first


def _read_node(scale, node, deep):
    """Return the part that a line and those below it tell."""
    text, below = node
    if deep == 0:
        return None
    if text == "all":
        return ("all",)
    word, _, rest = text.partition(" ")
    if word == "pair":
        return _read_pair(scale, text, below, deep)
    name, _, value = rest.partition(" ")
    parts = {read_whole(_behind_word(line)): _read_below(scale, inner, deep) for line, inner in below}
    return (word, name, parts) if word == "common" else (word, name, read_whole(value), parts)


def _behind_word(line):
    return line.partition(" ")[2]


def _read_below(scale, nodes, deep):
    """Return the part that stands below the line of its key."""
    return _read_node(scale, nodes[0], deep - 1) if len(nodes) == 1 else None


def _read_pair(scale, text, below, deep):
    step = read_step(text)
    if step is None:
        return None
    keyed = [(_read_key(line), line, inner) for line, inner in below if line.partition(" ")[0] in ("stays", "of")]
    pairs = tuple([key for key, line, _ in keyed if line.startswith("stays ")])
    parts = {key: _read_below(scale, inner, deep) for key, _, inner in keyed}
    return step + (pairs, _read_prices(scale, below, "left"), _read_prices(scale, below, "other"), parts)


def _read_key(line):
    """Return the pair of values that a line tells."""
    left, _, other = _behind_word(line).partition(" / ")
    return (read_values(left), read_values(other))


def _read_prices(scale, below, word):
    """Return the prices that the lines with this word tell."""
    found = {}
    for line, _ in below:
        first, _, rest = line.partition(" ")
        if first == word:
            values, _, price = rest.partition(" = ")
            found[read_values(values)] = read_amount(scale, price)
    return found

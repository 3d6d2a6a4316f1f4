"""Texts of values: each value has exactly one text, from which it is read again."""

from mostkept.base.checks import ROW_LIMIT, is_index
from mostkept.base.rows import is_name
from mostkept.base.scales import Scale
from mostkept.errors import InvalidKeep, InvalidOperation, InvalidScale, InvalidStep, ParseError, TableError, TooMany
from mostkept.orders.witnesses import MAKINGS, PROBLEMS
from mostkept.rules.rules import Rules, check_rules
from mostkept.tables.conflicts import check_table
from mostkept.tables.tables import Table
from mostkept.text.parts import is_part_form, part_lines, read_part
from mostkept.text.words import are_keep_indices, are_steps_form, read_amount, read_indices, read_names, read_rule
from mostkept.text.words import read_scale, read_steps, read_values
from mostkept.text.words import write_amount, write_indices, write_names, write_rule, write_scale, write_steps
from mostkept.text.words import write_values

MOST_NAMES = 8


def _check_scale(scale):
    if not isinstance(scale, Scale):
        raise InvalidScale("the scale is not a scale")


def _check_text(text):
    if not isinstance(text, str):
        raise ParseError("the text is not a string")


def format_table(table):
    """Return the text of a table."""
    check_table(table)
    lines = ["columns " + write_names(table.columns), "scale " + write_scale(table.scale)]
    for row, weight in zip(table.rows, table.weights):
        lines.append(write_values(row) + " @ " + write_amount(table.scale, weight))
    return "\n".join(lines)


def parse_table(text):
    """Return the table of which this is the text."""
    _check_text(text)
    lines = text.split("\n")
    columns = _read_behind("columns ", lines[0], read_names)
    scale = _read_behind("scale ", lines[1], read_scale) if len(lines) > 1 else None
    if scale is None:
        raise ParseError("the text does not begin like that of a table")
    rows = []
    weights = []
    for line in lines[2:]:
        values, _, weight = line.partition(" @ ")
        rows.append(read_values(values))
        weights.append(read_amount(scale, weight))
    try:
        return Table.of(columns, tuple(rows), scale=scale, weights=tuple(weights))
    except (TableError, TooMany):
        raise ParseError("the text is not that of a table") from None


def _read_behind(word, text, read):
    """Return what is read behind a word with which the text begins, or None."""
    return read(text[len(word):]) if text.startswith(word) else None


def format_rules(rules):
    """Return the text of rules."""
    check_rules(rules)
    return "\n".join(["columns " + write_names(rules.columns)] + [write_rule(rule) for rule in rules.rules])


def parse_rules(text):
    """Return the rules of which this is the text."""
    _check_text(text)
    lines = text.split("\n")
    columns = _read_behind("columns ", lines[0], read_names)
    try:
        rules = Rules.of(columns, tuple([read_rule(line) for line in lines[1:]]))
    except (TableError, TooMany):
        raise ParseError("the text is not that of rules") from None
    if format_rules(rules) != text:
        raise ParseError("the rules in the text are not in their order")
    return rules


def format_steps(steps):
    """Return the text of steps."""
    if not are_steps_form(steps):
        raise InvalidStep("the steps are not a tuple of steps")
    return write_steps(steps)


def parse_steps(text):
    """Return the steps of which this is the text."""
    _check_text(text)
    steps = read_steps(text)
    if steps is None:
        raise ParseError("the text is not that of steps")
    return steps


def format_order(paper):
    """Return the text of an order paper."""
    if not _is_order_form(paper):
        raise InvalidOperation("the paper has not the form of an order paper")
    return _write_order(paper)


def _is_order_form(value):
    if not isinstance(value, tuple):
        return False
    if len(value) == 2 and value[0] == "chain":
        return are_steps_form(value[1])
    if len(value) != 3 or value[0] != "witness" or value[1] not in PROBLEMS or not isinstance(value[2], dict):
        return False
    if len(value[2]) > MOST_NAMES or not all([is_name(name) for name in value[2]]):
        return False
    return all([making in MAKINGS for making in value[2].values()])


def _write_order(paper):
    if paper[0] == "chain":
        return "chain " + write_steps(paper[1])
    words = [name + " " + (paper[2][name] if paper[2][name] != "" else "-") for name in sorted(paper[2])]
    return f"witness {paper[1]}: " + (", ".join(words) if len(words) > 0 else "-")


def parse_order(text):
    """Return the order paper of which this is the text."""
    _check_text(text)
    if text.startswith("chain "):
        paper = ("chain", read_steps(text[len("chain "):]))
    else:
        start, _, rest = text.partition(": ")
        paper = ("witness", start[len("witness "):], _read_makings(rest))
    if not _is_order_form(paper) or _write_order(paper) != text:
        raise ParseError("the text is not that of an order paper")
    return paper


def _read_makings(text):
    """Return the makings that a text tells; it is sure only if they are written like this."""
    if text == "-":
        return {}
    words = [word.partition(" ") for word in text.split(", ")]
    return {name: "" if making == "-" else making for name, _, making in words}


def format_keep(keep):
    """Return the text of a keep."""
    if not are_keep_indices(keep):
        raise InvalidKeep("the keep is not an ascending tuple of integers from 0 to 199")
    return write_indices(keep)


def parse_keep(text):
    """Return the keep of which this is the text."""
    _check_text(text)
    keep = read_indices(text)
    if not are_keep_indices(keep):
        raise ParseError("the text is not that of a keep")
    return keep


def format_amount(scale, amount):
    """Return the text of an amount."""
    _check_scale(scale)
    if not scale.is_amount(amount):
        raise InvalidOperation("the amount is not an amount of the scale")
    return write_amount(scale, amount)


def parse_amount(scale, text):
    """Return the amount of which this is the text."""
    _check_scale(scale)
    _check_text(text)
    amount = read_amount(scale, text)
    if amount is None:
        raise ParseError("the text is not that of an amount of the scale")
    return amount


def format_keep_paper(scale, paper):
    """Return the text of a keep paper."""
    _check_scale(scale)
    if not _is_keep_paper_form(scale, paper):
        raise InvalidOperation("the paper has not the form of a keep paper")
    return _write_keep_paper(scale, paper)


def _is_keep_paper_form(scale, value):
    if not isinstance(value, tuple) or len(value) != 3 or value[0] != "keep":
        return False
    return are_keep_indices(value[1]) and is_part_form(scale, value[2])


def _write_keep_paper(scale, paper):
    return "\n".join(["keep " + write_indices(paper[1])] + part_lines(scale, paper[2]))


def parse_keep_paper(scale, text):
    """Return the keep paper of which this is the text."""
    _check_scale(scale)
    _check_text(text)
    lines = text.split("\n")
    # What was read is the paper of the text only if it has the form and is written just so.
    paper = ("keep", _read_behind("keep ", lines[0], read_indices), read_part(scale, lines[1:]))
    if not _is_keep_paper_form(scale, paper) or _write_keep_paper(scale, paper) != text:
        raise ParseError("the text is not that of a keep paper")
    return paper


def format_half_paper(scale, paper):
    """Return the text of a half paper."""
    _check_scale(scale)
    if not _is_half_paper_form(scale, paper):
        raise InvalidOperation("the paper has not the form of a half paper")
    return _write_half_paper(scale, paper)


def _is_half_paper_form(scale, value):
    if not isinstance(value, tuple) or len(value) != 3 or value[0] != "half":
        return False
    halves = value[1]
    if not isinstance(halves, tuple) or len(halves) > ROW_LIMIT or not all([is_index(half, 3) for half in halves]):
        return False
    if not isinstance(value[2], dict) or not all([_is_flow(pair) for pair in value[2]]):
        return False
    return all([scale.is_amount(amount) for amount in value[2].values()])


def _is_flow(value):
    return isinstance(value, tuple) and len(value) == 2 and all([is_index(one, ROW_LIMIT) for one in value])


def _write_half_paper(scale, paper):
    flows = [write_values(pair) + " = " + write_amount(scale, paper[2][pair]) for pair in sorted(paper[2])]
    return "\n".join(["halves " + write_values(paper[1])] + flows)


def parse_half_paper(scale, text):
    """Return the half paper of which this is the text."""
    _check_scale(scale)
    _check_text(text)
    lines = text.split("\n")
    flows = [line.partition(" = ") for line in lines[1:]]
    found = {read_values(pair): read_amount(scale, amount) for pair, _, amount in flows}
    paper = ("half", _read_behind("halves ", lines[0], read_values), found)
    if not _is_half_paper_form(scale, paper) or _write_half_paper(scale, paper) != text:
        raise ParseError("the text is not that of a half paper")
    return paper

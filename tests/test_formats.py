"""[18.1], [18.2] and the module mostkept.text.formats."""

import copy
import random
import unittest

from mostkept.base.scales import Scale
from mostkept.errors import InvalidKeep, InvalidOperation, InvalidRules, InvalidScale, InvalidStep, InvalidTable, ParseError
from mostkept.hard.halves import half_paper
from mostkept.keeps.greatest import keep_paper
from mostkept.orders.witnesses import order_paper
from mostkept.rules.rules import Rules
from mostkept.tables.tables import Table
from mostkept.text.formats import format_amount, format_half_paper, format_keep, format_keep_paper, format_order, format_rules
from mostkept.text.formats import format_steps, format_table, parse_amount, parse_half_paper, parse_keep, parse_keep_paper
from mostkept.text.formats import parse_order, parse_rules, parse_steps, parse_table
from tests.helper import ALL, KNOWN, NO_COLUMNS, PLACES, PLAN, TALKS, Case, exactly, otherwise, plain, values
from tests.search import SCALES, some_rules, some_table
from tests.test_greatest import any_part
from tests.test_sure import cases

EXAMPLES = """
>>> [format_steps((("pair", ("hour", "room"), ("talk",)),)), format_amount(Scale.odds(), (3, 2)), parse_keep("0 2")]
['pair hour room / talk', '3:2', (0, 2)]
>>> [format_rules(PLACES), format_order(("witness", "labels", {"team": "b", "item": "a", "place": "c"}))]
['columns item place team\\nitem -> place\\nteam -> place', 'witness labels: item a, place c, team b']
"""
SUMS, TWO, ODDS = SCALES
LONG = 10 ** 3999
PAIR = ("pair", ("hour", "room"), ("talk",))
KEPT = ("keep", (0, 2), PAIR + ((((1, 1), (5,)), ((1, 2), (6,))), {(1, 1): 0, (1, 2): 0, (2, 1): 0}, {(5,): 3, (6,): 2}, {
    ((1, 1), (5,)): ALL, ((1, 1), (6,)): ALL, ((1, 2), (6,)): ALL, ((2, 1), (5,)): ALL}))
KEPT_TEXT = """keep 0 2
pair hour room / talk
  left 1 1 = 0
  left 1 2 = 0
  left 2 1 = 0
  other 5 = 3
  other 6 = 2
  stays 1 1 / 5
    all
  of 1 1 / 6
    all
  stays 1 2 / 6
    all
  of 2 1 / 5
    all"""
DEEP = ("keep", (3,), ("common", "a", {-1: ("fixed", "b", 2, {2: ("pair", (), ("c",), (((), (7,)),), {(): (2, 1)}, {(7,): (1, 3)}, {
    ((), (7,)): ALL, ((), (8,)): ("fixed", "d", None, {})}), 1: ALL}), 4: ("pair", (), (), (), {}, {}, {})}))
DEEP_TEXT = """keep 3
common a
  of -1
    fixed b 2
      of 1
        all
      of 2
        pair - / c
          left - = 2:1
          other 7 = 1:3
          stays - / 7
            all
          of - / 8
            fixed d -
  of 4
    pair - / -"""


def nested_part(many):
    """Return a part that is so many deep."""
    part = ALL
    for _ in range(many - 1):
        part = ("common", "a", {1: part})
    return part


def nested_text(many):
    lines = ["keep none"]
    for deep in range(many - 1):
        lines += ["    " * deep + "common a", "    " * deep + "  of 1"]
    return "\n".join(lines + ["    " * (many - 1) + "all"])


def spoilt(text):
    """Yield texts that are like this one but for a sign, a word or a line."""
    for at in range(len(text)):
        yield text[:at] + text[at + 1:]
        yield text[:at] + text[at] * 2 + text[at + 1:]
        yield text[:at] + text[at].swapcase() + text[at + 1:]
        for sign in " \n-+0aA/:@":
            yield text[:at] + sign + text[at + 1:]
            yield text[:at] + sign + text[at:]
    lines = text.split("\n")
    for at in range(len(lines)):
        yield "\n".join(lines[:at] + lines[at + 1:])
        yield "\n".join(lines[:at] + [lines[at]] * 2 + lines[at + 1:])
        yield "\n".join(lines[:at] + [lines[at] + " "] + lines[at + 1:])
        yield "\n".join(lines[:at] + ["  " + lines[at]] + lines[at + 1:])
        yield "\n".join(lines[:at] + [""] + lines[at:])
        if at > 0:
            yield "\n".join(lines[:at - 1] + [lines[at], lines[at - 1]] + lines[at + 1:])
    yield from (text + "\n", "\n" + text, " " + text, text + " ", text.upper(), text.replace(" ", "  "), text.replace("\n", "\r\n"))


class Texts(Case):

    def has_text(self, value, text, write, read):
        """Check that the value has this text, and is read from it again, with the keys of dicts ascending."""
        self.assertEqual(write(value), text)
        again = read(text)
        self.assertEqual(repr_of(again), repr_of(value))
        self.assertTrue(ascends(again))

    def goes_both_ways(self, value, write, read):
        self.has_text(value, write(value), write, read)

    def has_no_others(self, value, write, read):
        """Check that each text like that of the value is that of another value, or is refused."""
        text = write(value)
        for other in spoilt(text):
            if other != text:
                try:
                    found = read(other)
                except ParseError:
                    continue
                self.assertEqual(write(found), other)
                self.assertNotEqual(repr_of(found), repr_of(value))


def repr_of(value):
    """Return what tells apart values that are not equal, or equal and of other kinds, whatever the order of keys."""
    if isinstance(value, (Table, Rules)):
        return (value.columns, value.rules) if isinstance(value, Rules) else (value.columns, value.rows, value.weights, str(value.scale))
    if isinstance(value, dict):
        return ("dict", sorted((repr_of(key), repr_of(one)) for key, one in value.items()))
    return ("tuple", *[repr_of(one) for one in value]) if isinstance(value, tuple) else (type(value).__name__, value)


def ascends(value):
    if isinstance(value, dict):
        return list(value) == sorted(value) and all(ascends(one) for one in value.values())
    return all(ascends(one) for one in value) if isinstance(value, tuple) else True


class SmallTest(Texts):

    def test_examples(self):
        self.examples(EXAMPLES, {**globals(), **KNOWN})

    def test_amounts(self):
        for scale, amount, text in ((SUMS, 5, "5"), (SUMS, 0, "0"), (SUMS, -12, "-12"), (Scale.classes(3), (2, 0, 1), "2/0/1"),
                                    (TWO, (-1, -20), "-1/-20"), (Scale.classes(1), (7,), "7"), (ODDS, (3, 2), "3:2"), (ODDS, (1, 1), "1:1"),
                                    (Scale.classes(4), (0, 0, 0, 0), "0/0/0/0"), (SUMS, -LONG, "-1" + "0" * 3999), (ODDS, (1, LONG), "1:1" + "0" * 3999)):
            self.has_text(amount, text, lambda value: format_amount(scale, value), lambda value: parse_amount(scale, value))
        for scale, text in ((SUMS, "5"), (TWO, "2/0"), (ODDS, "3:2"), (SUMS, "-10"), (Scale.classes(1), "0"), (ODDS, "10:3")):
            amount = parse_amount(scale, text)
            self.has_no_others(amount, lambda value: format_amount(scale, value), lambda value: parse_amount(scale, value))
        for scale, wrong in ((SUMS, ("1/2", "1:2", "", "-", "+1", "01", "-0", "--1", "1 ", "1" * 4001, "1_0", "1.0", "1e1", "none", "00")),
                             (TWO, ("1", "1/2/3", "1/", "/1", "1:2", "1/+2", "1/-0", "01/1", "1//2", "1/" + "1" * 4001)),
                             (ODDS, ("1", "2:4", "0:1", "1:0", "-1:2", "3/2", "3:2:1", "3:", ":2", "6:3", "1" * 4001 + ":1"))):
            for text in wrong:
                self.raises(ParseError, lambda: parse_amount(scale, text))
        self.assertEqual(parse_amount(SUMS, "9" * 4000), 10 ** 4000 - 1)

    def test_amounts_of_many_digits(self):
        for many in (59, 60, 61, 120, 121, 3999, 4000):
            for number in (10 ** many - 1, 10 ** (many - 1), 10 ** (many - 1) + 10 ** 7, 1 - 10 ** many):
                self.goes_both_ways(number, lambda value: format_amount(SUMS, value), lambda value: parse_amount(SUMS, value))
        self.assertEqual(format_amount(SUMS, 7 * 10 ** 5000 + 1), "7" + "0" * 4999 + "1")

    def test_keeps(self):
        for keep, text in (((), "none"), ((0,), "0"), ((0, 2, 199), "0 2 199"), (tuple(range(200)), " ".join(map(str, range(200))))):
            self.has_text(keep, text, format_keep, parse_keep)
        for text in ("", "-", "200", "0 0", "2 0", "-1", "0  2", "0 2 ", " 0", "0,2", "none 0", "None", "00", "0 1" * 2, "1" * 4001, "+1"):
            self.raises(ParseError, lambda: parse_keep(text))
        for keep in ((), (0,), (3, 10, 120)):
            self.has_no_others(keep, format_keep, parse_keep)

    def test_steps(self):
        for steps, text in (((), "no steps"), ((PAIR,), "pair hour room / talk"), ((("common", "hour"), ("fixed", "a")), "common hour ; fixed a"),
                            ((("pair", (), ()),), "pair - / -"), ((("pair", (), ("a",)), ("pair", ("a", "b"), ("a", "b"))), "pair - / a ; pair a b / a b"),
                            ((("pair", tuple("abcdefgh"), ("b",)),) * 3, " ; ".join(["pair a b c d e f g h / b"] * 3)),
                            ((("common", "fixed"), ("fixed", "pair"), ("common", "no")), "common fixed ; fixed pair ; common no")):
            self.has_text(steps, text, format_steps, parse_steps)
            self.has_no_others(steps, format_steps, parse_steps)
        for text in ("", "-", "none", "common", "common -", "common a b", "fixed A", "pair a", "pair a /", "pair / a", "pair b a / c", "pair a a / b",
                     "pair a / b / c", "common a;fixed b", "common a ; ", " ; common a", "common ninechars", "no steps ; common a", "pair a/b",
                     "pair a b c d e f g h i / a", "commons a", "fixed a 3", "pair  / a", "pair - - / a"):
            self.raises(ParseError, lambda: parse_steps(text))

    def test_order_papers(self):
        for paper, text in ((("chain", ()), "chain no steps"), (("chain", (PAIR, ("fixed", "a"))), "chain pair hour room / talk ; fixed a"),
                            (("witness", "turn", {}), "witness turn: -"), (("witness", "row", {"a": ""}), "witness row: a -"),
                            (("witness", "triangles", {"z": "abc", "a": "ac"}), "witness triangles: a ac, z abc"),
                            (("witness", "labels", {name: "b" for name in "hgfedcba"}),
                             "witness labels: " + ", ".join(f"{name} b" for name in "abcdefgh"))):
            self.has_text(paper, text, format_order, parse_order)
            self.has_no_others(paper, format_order, parse_order)
        for text in ("", "chain", "chain ", "no steps", "witness labels:", "witness labels", "witness : -", "witness labels: a", "witness lines: a b",
                     "witness labels: a b,c d", "witness labels: b a, a b", "witness labels: a a, a b", "witness labels: a ba", "witness labels: -, a b",
                     "witness labels: a d", "witness labels: A a", "witness labels: " + ", ".join(f"{name} b" for name in "abcdefghi"), "labels: a b",
                     "witness labels: a  b", "witness labels : a b", "chain: no steps", "witness labels: a b, ", "WITNESS labels: a b"):
            self.raises(ParseError, lambda: parse_order(text))
        for rules in some_rules(("a", "b", "c", "d"), 4, 60, 41):
            self.goes_both_ways(order_paper(rules), format_order, parse_order)


class TableTest(Texts):

    def test_tables(self):
        plan = "columns hour room talk\nscale sums\n1 1 5 @ 3\n1 1 6 @ 2\n1 2 6 @ 2\n2 1 5 @ 2"
        self.has_text(PLAN, plan, format_table, parse_table)
        self.has_text(PLAN.only(), "columns hour room talk\nscale sums", format_table, parse_table)
        self.has_text(Table(("a",), (-7,), scale=Scale.classes(2), weights=((0, 3),)), "columns a\nscale classes 2\n-7 @ 0/3", format_table, parse_table)
        self.has_text(Table(("a", "b"), (0, 10), scale=ODDS), "columns a b\nscale odds\n0 10 @ 2:1", format_table, parse_table)
        for size in (1, 2, 3, 4):
            self.goes_both_ways(Table(("a",), (1,), (1,), scale=Scale.classes(size)), format_table, parse_table)
        for table in (PLAN, PLAN.only(), Table(("a",), (-7,), scale=Scale.classes(2)), Table(("a", "b"), (0, 10), (0, 10), scale=ODDS)):
            self.has_no_others(table, format_table, parse_table)
        for number in range(30):
            self.goes_both_ways(some_table(("a", "b"), number, 12, SCALES[number % 3], number), format_table, parse_table)
        self.goes_both_ways(some_table(PLAN.columns, 200, 30, ODDS, 1), format_table, parse_table)

    def test_great_integers_in_rows(self):
        table = Table(("a", "b"), (10 ** 4000 - 1, -10 ** 3999), weights=(10 ** 40 - 1,))
        self.goes_both_ways(table, format_table, parse_table)
        text = format_table(table)
        self.raises(ParseError, lambda: parse_table(text.replace("9 -1", "90 -1")))
        self.raises(ParseError, lambda: parse_table(text + "0"))

    def test_texts_of_no_tables(self):
        start = "columns a b\nscale sums"
        for text in ("", "columns a b", "columns a b\n", "columns -\nscale sums", "columns b a\nscale sums", "columns a b\nscale sum", "columns\nscale sums",
                     "columns a b\nscale classes", "columns a b\nscale classes 0", "columns a b\nscale classes 5", "columns a b\nscale classes 02",
                     "columns a b\nscale classes  2", "columns a b\nscale sums 1", "columns a b\nscale odds ", "scale sums\ncolumns a b", start + "\n",
                     start + "\n1 2", start + "\n1 2 @", start + "\n1 2 @ ", start + "\n1 2 @ 0", start + "\n1 2 @ -1", start + "\n1 @ 1", start + "\n- @ 1",
                     start + "\n1 2 3 @ 1", start + "\n1 2 @ 1/1", start + "\n1 2 @ 2:1", start + "\n1 2 @ 1 @ 1", start + "\n1 2 @ 1\n", start + "\n\n1 2 @ 1",
                     start + "\n1  2 @ 1", start + "\n1 2  @ 1", start + "\n01 2 @ 1", start + "\n1 +2 @ 1", start + "\n1 -0 @ 1", start + "\n1 2@1",
                     start + "\n1 2 @ 1" * 201, "columns a a\nscale sums", "columns a b c d e f g h i\nscale sums", "Columns a b\nscale sums",
                     "columns a b\nscale odds\n1 2 @ 1:2", "columns a b\nscale odds\n1 2 @ 1:1", "columns a b\nscale odds\n1 2 @ 1000001:1",
                     "columns a b\nscale classes 2\n1 2 @ 0/0", "columns a b\nscale classes 2\n1 2 @ -1/2", "columns a b\r\nscale sums"):
            self.raises(ParseError, lambda: parse_table(text))
        self.assertEqual(len(parse_table(start + "\n1 2 @ 1" * 200)), 200)

    def test_rules(self):
        some = Rules(("a", "b"), ((), ("b",)), (("a",), ("a", "b")), (("a", "b"), ("a",)), ((), ("a", "b")))
        self.has_text(some, "columns a b\n- -> a b\n- -> b\na -> a b\na b -> a", format_rules, parse_rules)
        self.has_text(NO_COLUMNS, "columns -", format_rules, parse_rules)
        self.has_text(Rules(("a",)), "columns a", format_rules, parse_rules)
        for rules in (some, NO_COLUMNS, TALKS, Rules(("a",), ((), ("a",)))):
            self.has_no_others(rules, format_rules, parse_rules)
        for rules in some_rules(("a", "b", "c", "d"), 16, 40, 42):
            self.goes_both_ways(rules, format_rules, parse_rules)

    def test_texts_of_no_rules(self):
        for text in ("", "columns", "columns ", "columns b a", "columns a b\n", "columns a b\na -> -", "columns a b\n-> b", "columns a b\na ->", "columns a b\na->b",
                     "columns a b\na -> c", "columns a b\nb -> a\na -> b", "columns a b\na -> b\na -> b", "columns a b\n- - -> a", "columns a b\nb a -> a",
                     "columns -\n- -> -", "columns a b\na -> b -> a", "columns a b\na  -> b", "columns a b\nscale sums", "columns - a", "rules a b"):
            self.raises(ParseError, lambda: parse_rules(text))
        letters = "abcdefgh"
        lines = [f"{one} -> {two}" for one in letters for two in letters][:17]
        self.assertEqual(len(parse_rules("\n".join(["columns " + " ".join(letters)] + lines[:16]))), 16)
        self.raises(ParseError, lambda: parse_rules("\n".join(["columns " + " ".join(letters)] + lines)))


class PaperTest(Texts):

    def test_keep_papers_by_hand(self):
        self.has_text(KEPT, KEPT_TEXT, lambda value: format_keep_paper(SUMS, value), lambda value: parse_keep_paper(SUMS, value))
        self.has_text(DEEP, DEEP_TEXT, lambda value: format_keep_paper(ODDS, value), lambda value: parse_keep_paper(ODDS, value))
        for paper, text in ((("keep", (), ALL), "keep none\nall"), (("keep", (), ("fixed", "x", None, {})), "keep none\nfixed x -"),
                            (("keep", (5,), ("common", "x", {})), "keep 5\ncommon x"),
                            (("keep", (1,), ("fixed", "x", -3, {-3: ALL, 10: ALL, 9: ALL})), "keep 1\nfixed x -3\n  of -3\n    all\n  of 9\n    all\n  of 10\n    all"),
                            (("keep", (), PAIR + ((), {}, {}, {})), "keep none\npair hour room / talk")):
            for scale in SCALES:
                self.has_text(paper, text, lambda value: format_keep_paper(scale, value), lambda value: parse_keep_paper(scale, value))

    def test_keep_papers_of_tables(self):
        chance = random.Random(43)
        for table, rules in cases()[::2]:
            part, kept = any_part(table, rules, tuple(range(len(table))), chance)
            for paper in (keep_paper(table, rules), ("keep", kept, part)):
                self.goes_both_ways(paper, lambda value: format_keep_paper(table.scale, value), lambda value: parse_keep_paper(table.scale, value))
        for scale in SCALES:
            table = some_table(TALKS.columns, 200, 14, scale, 1)
            self.goes_both_ways(keep_paper(table, TALKS), lambda value: format_keep_paper(scale, value), lambda value: parse_keep_paper(scale, value))

    def test_spoilt_keep_papers(self):
        for scale, paper in ((SUMS, KEPT), (ODDS, DEEP), (TWO, ("keep", (2,), ("fixed", "x", 1, {1: ALL, 2: ALL})))):
            self.has_no_others(paper, lambda value: format_keep_paper(scale, value), lambda value: parse_keep_paper(scale, value))
        for text in ("keep none", "keep 0\nall\nall", "keep 0\n all", "keep 0\n  all", "keep 0\nall\n  all", "keep 200\nall", "keep -\nall", "all", "\nall",
                     "keep 0\ncommon x\n  of 1", "keep 0\ncommon x\n  of 1\n  all", "keep 0\ncommon x\n  all", "keep 0\nfixed x 1", "keep 0\nfixed x -\n  of 1\n    all",
                     "keep 0\nfixed x 2\n  of 1\n    all", "keep 0\nfixed x\n  of 1\n    all", "keep 0\ncommon x\n  of 2\n    all\n  of 1\n    all",
                     "keep 0\ncommon x\n  of 1\n    all\n  of 1\n    all", "keep 0\ncommon x\n  of 1\n     all", "keep 0\ncommon x\n  of 1\n      all",
                     "keep 0\ncommon x\n  stays 1\n    all", "keep 0\ncommon x\n  of 01\n    all", "keep 0\ncommon X", "keep 0\ncommon x y", "keep 0\npair a / b\n  left 1 = 1\n  left 0 = 1",
                     "keep 0\npair a / b\n  other 1 = 1\n  left 0 = 1", "keep 0\npair a / b\n  left 1 2 = 1", "keep 0\npair a / b\n  left - = 1",
                     "keep 0\npair a / b\n  of 1 / 2\n    all\n  left 1 = 1", "keep 0\npair a / b\n  left 1 = 1\n    all", "keep 0\npair a / b\n  of 1\n    all",
                     "keep 0\npair a / b\n  of 1 / 2 3\n    all", "keep 0\npair a / b\n  is 1 / 2\n    all", "keep 0\npair b a / b", "keep 0\npair a / b\n  left 1 = 1/1",
                     "keep 0\npair a / b\n  other 1 = 1\n  other 1 = 1", "Keep 0\nall", "keep 0\nALL", "keep 0\nall\n", "keep 0\r\nall"):
            self.raises(ParseError, lambda: parse_keep_paper(SUMS, text))

    def test_nine_and_ten_deep(self):
        nine = ("keep", (), nested_part(9))
        self.has_text(nine, nested_text(9), lambda value: format_keep_paper(TWO, value), lambda value: parse_keep_paper(TWO, value))
        self.raises(InvalidOperation, lambda: format_keep_paper(TWO, ("keep", (), nested_part(10))))
        self.raises(ParseError, lambda: parse_keep_paper(TWO, nested_text(10)))
        self.raises(ParseError, lambda: parse_keep_paper(TWO, nested_text(800)))
        deep = ("common", "b", {2: nested_part(8), 3: ("common", "c", {})})
        self.goes_both_ways(("keep", (), deep), lambda value: format_keep_paper(TWO, value), lambda value: parse_keep_paper(TWO, value))
        self.raises(InvalidOperation, lambda: format_keep_paper(TWO, ("keep", (), ("common", "b", {2: nested_part(9)}))))

    def test_half_papers(self):
        for scale, paper, text in ((SUMS, ("half", (0, 1, 2), {(3, 0): -5, (0, 3): 5, (0, 10): 1, (0, 9): 1}), "halves 0 1 2\n0 3 = 5\n0 9 = 1\n0 10 = 1\n3 0 = -5"),
                                   (ODDS, ("half", (), {(199, 199): (1, 1)}), "halves -\n199 199 = 1:1"), (TWO, ("half", (), {}), "halves -"),
                                   (TWO, ("half", (2,) * 200, {(1, 0): (0, 0)}), "halves " + " ".join(["2"] * 200) + "\n1 0 = 0/0")):
            self.has_text(paper, text, lambda value: format_half_paper(scale, value), lambda value: parse_half_paper(scale, value))
            if len(paper[1]) < 9:
                self.has_no_others(paper, lambda value: format_half_paper(scale, value), lambda value: parse_half_paper(scale, value))
        for scale in SCALES:
            table = some_table(PLACES.columns, 200, 20, scale, 1)
            self.goes_both_ways(half_paper(table, PLACES), lambda value: format_half_paper(scale, value), lambda value: parse_half_paper(scale, value))
        for text in ("", "halves", "halves ", "halves 3", "halves -1", "halves 0 1 ", "halves none", "halves -\n0 1 = 1\n0 1 = 1", "halves -\n1 0 = 1\n0 1 = 1",
                     "halves -\n0 200 = 1", "halves -\n0 = 1", "halves -\n0 1 2 = 1", "halves -\n0 1 = ", "halves -\n0 1", "halves -\n- = 1", "halves -\n0 1 = 1:1",
                     "halves -\n0 1=1", "halves -\n0 -1 = 1", "halves -\n", "halves " + " ".join(["2"] * 201), "halves -\n0 1 = " + "1" * 4001, "halves 0\n0 1 = 1 = 1"):
            self.raises(ParseError, lambda: parse_half_paper(SUMS, text))

    def test_great_amounts_in_papers(self):
        for amount, text in ((LONG, "1" + "0" * 3999), (1 - 10 * LONG, "-" + "9" * 4000)):
            self.has_text(("half", (), {(0, 1): amount}), "halves -\n0 1 = " + text, lambda value: format_half_paper(SUMS, value),
                          lambda value: parse_half_paper(SUMS, value))
            paper = ("keep", (), ("pair", ("a",), (), (), {(LONG,): amount}, {(): amount}, {}))
            self.goes_both_ways(paper, lambda value: format_keep_paper(SUMS, value), lambda value: parse_keep_paper(SUMS, value))
            self.raises(ParseError, lambda: parse_keep_paper(SUMS, format_keep_paper(SUMS, paper).replace(text, text + "0")))

    def right_part(self, scale, value, deep=1):
        """Return whether the value has the form of a part by the words of [18.2]."""
        def is_name(one):
            return isinstance(one, str) and 1 <= len(one) <= 8 and all("a" <= sign <= "z" for sign in one)

        def is_side(one):
            return isinstance(one, tuple) and len(one) <= 8 and all(is_name(name) for name in one) and list(one) == sorted(set(one))

        def is_values(one, many):
            return isinstance(one, tuple) and len(one) == many and all(type(at) is int for at in one)

        if not isinstance(value, tuple) or deep > 9:
            return False
        if value == ALL:
            return True
        if len(value) < 3 or value[0] not in ("common", "fixed", "pair") or len(value) != {"common": 3, "fixed": 4, "pair": 7}[value[0]]:
            return False
        if not isinstance(value[-1], dict) or not all(self.right_part(scale, one, deep + 1) for one in value[-1].values()):
            return False
        if value[0] != "pair":
            keys = all(type(key) is int for key in value[-1]) and is_name(value[1])
            chosen = value[0] == "common" or (value[2] is None and not value[3]) or (type(value[2]) is int and value[2] in value[3])
            return keys and chosen
        left, other, pairs, prices, others, parts = value[1:]
        if not is_side(left) or not is_side(other) or not isinstance(pairs, tuple):
            return False
        for side, told in ((left, prices), (other, others)):
            if not isinstance(told, dict) or not all(is_values(key, len(side)) and one in scale for key, one in told.items()):
                return False
        if not all(isinstance(key, tuple) and len(key) == 2 and is_values(key[0], len(left)) and is_values(key[1], len(other)) for key in parts):
            return False
        return all(plain(pair) and isinstance(pair, tuple) and pair in list(parts) for pair in pairs) and list(pairs) == sorted(set(pairs))

    def test_forms_of_keep_papers(self):
        for scale, paper in ((SUMS, KEPT), (ODDS, DEEP), (TWO, ("keep", (2,), ("fixed", "x", 1, {1: ALL, 2: ("common", "y", {})})))):
            for wrong in otherwise(paper):
                indices = wrong[1] if isinstance(wrong, tuple) and len(wrong) == 3 and wrong[0] == "keep" else None
                right = isinstance(indices, tuple) and all(type(at) is int and 0 <= at < 200 for at in indices) and list(indices) == sorted(set(indices))
                if right and self.right_part(scale, wrong[2]):
                    self.goes_both_ways(wrong, lambda value: format_keep_paper(scale, value), lambda value: parse_keep_paper(scale, value))
                else:
                    self.raises(InvalidOperation, lambda: format_keep_paper(scale, wrong))

    def test_forms_of_half_papers(self):
        def right(scale, value):
            if not isinstance(value, tuple) or len(value) != 3 or value[0] != "half" or not isinstance(value[1], tuple) or not isinstance(value[2], dict):
                return False
            pairs = all(isinstance(key, tuple) and len(key) == 2 and all(type(at) is int and 0 <= at < 200 for at in key) for key in value[2])
            return pairs and all(one in scale for one in value[2].values()) and len(value[1]) <= 200 and all(type(at) is int and 0 <= at <= 2 for at in value[1])

        for scale, paper in ((SUMS, ("half", (0, 1, 2), {(0, 199): 5, (7, 7): 0})), (ODDS, ("half", (), {(199, 0): (3, 4)})), (TWO, ("half", (2,) * 200, {}))):
            self.assertTrue(right(scale, paper))
            for wrong in otherwise(paper):
                if right(scale, wrong):
                    self.goes_both_ways(wrong, lambda value: format_half_paper(scale, value), lambda value: parse_half_paper(scale, value))
                else:
                    self.raises(InvalidOperation, lambda: format_half_paper(scale, wrong))

    def test_forms_of_order_papers_and_steps(self):
        for paper in (("witness", "labels", {"item": "a", "place": "c", "team": "b"}), ("chain", (PAIR, ("common", "a"), ("pair", (), ("a",)))), ("witness", "turn", {})):
            for wrong in otherwise(paper):
                try:
                    text = format_order(wrong)
                except InvalidOperation:
                    continue
                self.assertEqual(repr_of(parse_order(text)), repr_of(wrong))
        for steps in ((PAIR, ("fixed", "a")), (("pair", (), ()),)):
            for wrong in otherwise(steps):
                try:
                    text = format_steps(wrong)
                except InvalidStep:
                    continue
                self.assertEqual(repr_of(parse_steps(text)), repr_of(wrong))

    def test_what_has_the_form_need_not_be_right(self):
        for paper in (("keep", (0, 199), PAIR + ((((0, 0), (0,)), ((0, 0), (1,))), {(5, 5): -1}, {}, {((0, 0), (0,)): ALL, ((0, 0), (1,)): ALL})),
                      ("keep", (3,), ("common", "a", {1: ("fixed", "a", 2, {2: ("pair", ("a",), ("a",), (), {}, {}, {})})}))):
            self.goes_both_ways(paper, lambda value: format_keep_paper(SUMS, value), lambda value: parse_keep_paper(SUMS, value))
        self.assertEqual(parse_steps(format_steps((("fixed", "hour"),) * 40)), (("fixed", "hour"),) * 40)


class WrongTest(Case):

    def test_values_that_have_no_text(self):
        for value in values():
            if not isinstance(value, Table):
                self.raises(InvalidTable, lambda: format_table(value))
            if not isinstance(value, Rules):
                self.raises(InvalidRules, lambda: format_rules(value))
        self.refuses(InvalidStep, format_steps, [(), (PAIR,)], more=[(PAIR,), PAIR, [PAIR], (("common", "A"),), (("all",),), (("pair", ("b", "a"), ()),),
                                                                     (("fixed", "a", 3),), (("common", "ninechars"),), (["fixed", "a"],)])
        keeps = [(), (0,), (1,), (2,), (0, 1), (1, 2), (3, 4), (0, 1, 2, 3), (0, 199)]
        self.refuses(InvalidKeep, format_keep, keeps, more=[(0, 199), (0, 200), [0], (1, 1), (-1, 0)])
        self.refuses(InvalidOperation, format_order, [("chain", ())], more=[
            ("chain", [PAIR]), ["chain", ()], ("witness", "labels", ()), ("witness", "lines", {}), ("witness", "labels", {"a": "ba"}), ("chain",),
            ("witness", "labels", {"A": "a"}), ("witness", "labels", {1: "a"}), ("witness", "labels", {"a": ["a"]}), ("witness", ["labels"], {}),
            ("witness", "labels", {name: "a" for name in "abcdefghi"}), ("chain", (), ())])
        self.refuses(InvalidOperation, lambda value: format_keep_paper(SUMS, value), [("keep", (), ALL)], more=[("keep", (200,), ALL), ("keep", (), "all")])
        self.refuses(InvalidOperation, lambda value: format_half_paper(SUMS, value), [("half", (), {})], more=[("half", (0,) * 201, {}), ("half", (), ())])
        numbers = [one for one in values() if isinstance(one, int) and not isinstance(one, bool)]
        self.refuses(InvalidOperation, lambda value: format_amount(SUMS, value), numbers)
        pairs = [one for one in values() if isinstance(one, tuple) and len(one) == 2 and all(type(at) is int for at in one)]
        self.refuses(InvalidOperation, lambda value: format_amount(TWO, value), pairs)
        self.refuses(InvalidOperation, lambda value: format_amount(ODDS, value), [one for one in pairs if one in ODDS])

    def test_wrong_scales(self):
        for call in (format_amount, format_keep_paper, format_half_paper, parse_amount, parse_keep_paper, parse_half_paper):
            for value in values():
                if not isinstance(value, Scale):
                    self.raises(InvalidScale, lambda: call(value, None))

    def test_values_that_are_no_texts(self):
        for read, right in ((parse_table, []), (parse_rules, ["columns hour"]), (parse_steps, ["no steps"]), (parse_order, []), (parse_keep, []),
                            (lambda value: parse_amount(SUMS, value), []), (lambda value: parse_amount(TWO, value), ["1/2"]),
                            (lambda value: parse_amount(ODDS, value), ["3:2"]), (lambda value: parse_keep_paper(SUMS, value), ["keep none\nall"]),
                            (lambda value: parse_half_paper(ODDS, value), ["halves -"])):
            for value in [*values(), b"0", ["0"], ("0",), {"0": 1}, b"no steps"]:
                if isinstance(value, str) and exactly(value, right):
                    read(value)
                else:
                    self.raises(ParseError, lambda: read(value))

    def test_nothing_changes(self):
        paper, half = copy.deepcopy(KEPT), ("half", (0,), {(3, 1): 1, (0, 2): 2})
        format_keep_paper(SUMS, paper), format_half_paper(SUMS, half)
        self.raises(InvalidOperation, lambda: format_half_paper(ODDS, half))
        self.assertEqual((paper, list(half[2])), (KEPT, [(3, 1), (0, 2)]))
        parse_keep_paper(SUMS, KEPT_TEXT)[2][6].clear()
        self.assertEqual(parse_keep_paper(SUMS, KEPT_TEXT), KEPT)


if __name__ == "__main__":
    unittest.main()

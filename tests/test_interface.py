"""The interface: each name stands where its section lists it, with the arguments that are written there."""

import importlib
import inspect
import unittest

FUNCTIONS = {
    "mostkept.base.rows": {
        "is_name": "(value)", "is_columns": "(value, *, least=0)", "is_row": "(columns, value)",
        "values_at": "(columns, row, some)", "agreement": "(columns, row, other)",
        "groups": "(columns, rows, some)", "pairs": "(columns, rows, some)",
    },
    "mostkept.base.scales": {
        "odds_for": "(chance)", "chance_of": "(odds)", "chance_of_rows": "(weights, indices)",
    },
    "mostkept.rules.closures": {
        "closure": "(rules, *columns)", "closure_of": "(rules, columns)", "is_closed": "(rules, value)",
        "closed_sets": "(rules)", "triggers": "(rules)", "follows": "(rules, rule)", "rule_paper": "(rules, rule)",
        "is_rule_paper": "(rules, rule, value)", "typical_rows": "(rules)", "are_typical": "(rules, value)",
    },
    "mostkept.rules.covers": {
        "are_alike": "(first, second)", "alike_paper": "(first, second)", "is_alike_paper": "(first, second, value)",
        "lean_cover": "(rules)", "is_lean_cover": "(rules, value)", "is_key": "(rules, value)", "keys": "(rules)",
        "key_columns": "(rules)",
    },
    "mostkept.tables.conflicts": {
        "conflicts": "(table, rules)", "rivals": "(table, rules, index)",
        "conflict_rule": "(table, rules, index, other)", "is_keep": "(table, rules, value)",
        "is_full": "(table, rules, keep)", "filled": "(table, rules, keep)", "loss": "(table, rules, keep)",
        "keeps": "(table, rules)", "full_keeps": "(table, rules)", "clusters": "(table, rules)",
        "full_paper": "(table, rules, keep)", "is_full_paper": "(table, rules, keep, value)",
    },
    "mostkept.orders.chains": {
        "steps": "(rules)", "is_step": "(rules, value)", "behind": "(rules, *steps)", "behind_all": "(rules, steps)",
        "chain": "(rules)", "is_chain": "(rules, value)", "chains": "(rules)", "rest": "(rules)", "chain_lengths": "(rules)",
    },
    "mostkept.orders.witnesses": {
        "small_rules": "(problem)", "small_conflict": "(problem, letters)", "shared_columns": "(makings, letters)",
        "is_witness": "(rules, value)", "witness": "(rules)", "witnesses": "(rules, *, problem=None)",
        "order_paper": "(rules)", "is_order_paper": "(rules, value)",
    },
    "mostkept.keeps.matchings": {
        "is_matching": "(scale, worths, value)", "are_prices": "(scale, worths, value)",
        "greatest_matching": "(scale, worths)", "matching_paper": "(scale, worths)",
        "is_matching_paper": "(scale, worths, value)", "sum_of_pairs": "(scale, worths, *pairs)",
        "matchings": "(scale, worths, *, least=None)",
    },
    "mostkept.keeps.greatest": {
        "greatest_keep": "(table, rules, *, along=None)", "least_loss": "(table, rules)",
        "keep_paper": "(table, rules, *, along=None)", "is_keep_paper": "(table, rules, value)",
        "is_part": "(table, rules, value)", "kept_by": "(table, rules, part)", "amount_of_part": "(table, rules, part)",
        "is_greatest": "(table, rules, keep)", "steps_of": "(table, rules, paper)",
    },
    "mostkept.keeps.sure": {
        "greatest_with": "(table, rules, *, stay=(), go=())", "loss_with": "(table, rules, *, stay=(), go=())",
        "row_prices": "(table, rules, index)", "row_kind": "(table, rules, index)", "row_kinds": "(table, rules)",
        "row_paper": "(table, rules, index)", "is_row_paper": "(table, rules, index, value)",
    },
    "mostkept.keeps.best": {
        "best_first": "(table, rules, *, stay=(), go=())", "loss_levels": "(table, rules, *, stay=(), go=())",
        "is_ranking_paper": "(table, rules, value, *, stay=(), go=())",
    },
    "mostkept.hard.translations": {
        "translated": "(rules, witness, small)", "is_choices": "(problem, value)",
        "choices_of": "(problem, small, keep)", "agreeing": "(problem, small, choices)",
        "answered": "(rules, witness, small, server)", "triangle_table": "(first, second, third)",
        "first_greatest": "(problem, small)",
    },
    "mostkept.hard.halves": {
        "half_paper": "(table, rules)", "is_half_paper": "(table, rules, value)", "doubled_bound": "(table, rules)",
        "settled": "(table, rules, paper)", "near_keep": "(table, rules)", "exact_keep": "(table, rules)",
    },
    "mostkept.live.advice": {
        "loose_selections": "(rules)", "least_dropped": "(rules)", "is_loosening": "(rules, value)",
        "loosening_sets": "(rules)", "group_losses": "(table, rules, columns)", "rule_prices": "(table, rules)",
        "cheapest_selection": "(table, rules)",
    },
    "mostkept.text.formats": {
        "format_table": "(table)", "format_rules": "(rules)", "format_steps": "(steps)", "format_order": "(paper)",
        "format_keep": "(keep)", "format_amount": "(scale, amount)", "format_keep_paper": "(scale, paper)",
        "format_half_paper": "(scale, paper)", "parse_table": "(text)", "parse_rules": "(text)",
        "parse_steps": "(text)", "parse_order": "(text)", "parse_keep": "(text)", "parse_amount": "(scale, text)",
        "parse_keep_paper": "(scale, text)", "parse_half_paper": "(scale, text)",
    },
}
METHODS = {
    ("mostkept.base.scales", "Scale"): {
        "plus": "(self, *amounts)", "plus_all": "(self, amounts)", "minus": "(self, amount, other)",
        "negative": "(self, amount)", "twice": "(self, amount)", "is_less": "(self, amount, other)",
        "sign": "(self, amount)", "greatest": "(self, *amounts)", "least": "(self, *amounts)",
        "ranked": "(self, amounts)", "is_weight": "(self, value)", "is_amount": "(self, value)",
    },
    ("mostkept.tables.tables", "Table"): {
        "__init__": "(self, columns, *rows, scale=None, weights=None)",
        "weight": "(self, index)", "agreement": "(self, index, other)", "with_row": "(self, row, *, weight=None)",
        "without": "(self, *indices)", "without_all": "(self, indices)", "only": "(self, *indices)",
        "only_all": "(self, indices)", "weighted": "(self, index, weight)", "reordered": "(self, indices)",
        "renamed": "(self, **columns)", "renamed_by": "(self, columns)", "amount_of": "(self, indices)",
        "grouped": "(self, columns)", "where": "(self, **values)", "where_by": "(self, values)",
    },
    ("mostkept.rules.rules", "Rules"): {
        "__init__": "(self, columns, *rules)",
        "with_rule": "(self, left, right)", "without_rule": "(self, left, right)", "struck": "(self, *columns)",
        "struck_all": "(self, columns)", "renamed": "(self, **names)", "renamed_by": "(self, names)",
    },
    ("mostkept.keeps.best", "Ranking"): {
        "__init__": "(self, table, rules, *, stay=(), go=())",
        "next_keep": "(self)", "take": "(self, many)", "within": "(self, amount)", "paper_so_far": "(self)", "twin": "(self)",
    },
    ("mostkept.live.live", "Live"): {
        "__init__": "(self, table, rules)",
        "order_paper": "(self)", "least_loss": "(self)", "greatest_keep": "(self)", "keep_paper": "(self)",
        "bounds": "(self)", "apply": "(self, *edits)", "apply_all": "(self, edits)", "undo": "(self, many=1)",
        "redo": "(self, many=1)", "effect": "(self, *edits)", "effect_all": "(self, edits)", "worth": "(self, index)",
        "losses": "(self)", "trial": "(self)", "during": "(self, call)", "branch": "(self)",
    },
    ("mostkept.text.shell", "Shell"): {
        "__init__": "(self)",
        "run": "(self, line)", "run_all": "(self, lines)", "tried": "(self, line)", "branch_of": "(self, name)",
    },
}
SIGNS = {
    ("mostkept.base.scales", "Scale"): ("__contains__", "__eq__", "__str__"),
    ("mostkept.tables.tables", "Table"): ("__getitem__", "__len__", "__contains__", "__eq__", "__str__", "__or__"),
    ("mostkept.rules.rules", "Rules"): ("__len__", "__contains__", "__eq__", "__str__", "__or__"),
    ("mostkept.keeps.best", "Ranking"): ("__bool__", "__len__", "__eq__", "__str__"),
    ("mostkept.live.live", "Live"): ("__len__", "__eq__", "__str__"),
    ("mostkept.text.shell", "Shell"): ("__getitem__", "__contains__", "__len__", "__eq__", "__str__"),
}
PROPERTIES = {
    ("mostkept.base.scales", "Scale"): ("word", "size", "zero", "one"),
    ("mostkept.tables.tables", "Table"): ("columns", "rows", "weights", "scale", "total"),
    ("mostkept.rules.rules", "Rules"): ("columns", "rules", "plain"),
    ("mostkept.keeps.best", "Ranking"): ("table", "rules", "wish", "told", "loss"),
    ("mostkept.live.live", "Live"): ("table", "rules"), ("mostkept.text.shell", "Shell"): ("names", "log"),
}
OFF_THE_CLASS = {
    ("mostkept.base.scales", "Scale"): {"sums": "()", "classes": "(size)", "odds": "()"},
    ("mostkept.tables.tables", "Table"): {"of": "(columns, rows, *, scale=None, weights=None)"},
    ("mostkept.rules.rules", "Rules"): {"of": "(columns, rules)", "keyed": "(columns, *keys)",
                                        "keyed_by": "(columns, keys)"},
    ("mostkept.text.shell", "Shell"): {"of_log": "(lines)"},
}
CONSTANTS = {
    ("mostkept.base.scales", "MAX_SIZE"): 4, ("mostkept.base.scales", "MAX_ODDS"): 10 ** 6,
    ("mostkept.tables.tables", "MAX_ROWS"): 200, ("mostkept.tables.conflicts", "MAX_LISTED"): 16,
    ("mostkept.rules.rules", "MAX_COLUMNS"): 8, ("mostkept.rules.rules", "MAX_RULES"): 16,
    ("mostkept.orders.witnesses", "PROBLEMS"): ("labels", "row", "turn", "triangles"),
    ("mostkept.keeps.matchings", "MAX_PAIRS"): 200,
    ("mostkept.hard.halves", "MAX_CONFLICTS"): 2000, ("mostkept.hard.halves", "MAX_CLUSTER"): 24,
    ("mostkept.live.advice", "MAX_ADVISED"): 8,
    ("mostkept.text.shell", "MAX_TABLES"): 20, ("mostkept.text.shell", "MAX_LEVELS"): 20,
}
GENERATORS = (("mostkept.base.rows", "pairs"), ("mostkept.tables.tables", "Table.where"),
              ("mostkept.tables.tables", "Table.where_by"), ("mostkept.rules.closures", "closed_sets"),
              ("mostkept.rules.covers", "keys"), ("mostkept.tables.conflicts", "conflicts"),
              ("mostkept.tables.conflicts", "keeps"), ("mostkept.tables.conflicts", "full_keeps"),
              ("mostkept.orders.chains", "chains"), ("mostkept.orders.witnesses", "witnesses"),
              ("mostkept.keeps.matchings", "matchings"), ("mostkept.keeps.greatest", "steps_of"),
              ("mostkept.keeps.best", "best_first"), ("mostkept.keeps.best", "loss_levels"),
              ("mostkept.keeps.best", "Ranking.within"), ("mostkept.live.advice", "loose_selections"),
              ("mostkept.live.advice", "loosening_sets"), ("mostkept.live.live", "Live.losses"))


def class_of(place):
    return getattr(importlib.import_module(place[0]), place[1])


class InterfaceTest(unittest.TestCase):

    def test_functions(self):
        for module, functions in FUNCTIONS.items():
            for name, arguments in functions.items():
                found = getattr(importlib.import_module(module), name)
                self.assertEqual((found.__module__, found.__name__), (module, name))
                self.assertEqual(str(inspect.signature(found)), arguments, name)

    def test_methods_stand_in_the_class_itself(self):
        for place, methods in METHODS.items():
            for name, arguments in methods.items():
                found = vars(class_of(place))[name]
                self.assertTrue(inspect.isfunction(found), name)
                self.assertEqual(str(inspect.signature(found)), arguments, name)
        for place, names in SIGNS.items():
            self.assertEqual(class_of(place).__module__, place[0])
            for name in names:
                self.assertIn(name, vars(class_of(place)))

    def test_properties(self):
        for place, names in PROPERTIES.items():
            for name in names:
                self.assertIsInstance(vars(class_of(place))[name], property)

    def test_methods_that_are_called_off_the_class(self):
        for place, methods in OFF_THE_CLASS.items():
            for name, arguments in methods.items():
                self.assertIsInstance(vars(class_of(place))[name], (staticmethod, classmethod))
                self.assertEqual(str(inspect.signature(getattr(class_of(place), name))), arguments, name)

    def test_constants(self):
        for (module, name), value in CONSTANTS.items():
            self.assertEqual(getattr(importlib.import_module(module), name), value)

    def test_generators(self):
        for module, name in GENERATORS:
            found = importlib.import_module(module)
            for part in name.split("."):
                found = getattr(found, part)
            self.assertTrue(inspect.isgeneratorfunction(found), name)


if __name__ == "__main__":
    unittest.main()

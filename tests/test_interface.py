"""The interface and point 22: names, arguments and fields, in the file and the class under which they are listed."""

import importlib
import inspect
import unittest

FUNCTIONS = {
    "values": "kind_of(value) in_range(number) rank(value) row_rank(row) same_kind(one, other) compare(sign, one, other) "
              "arithmetic(sign, one, other) concat(one, other) both(one, other) either(one, other) negated(truth) "
              "like(text, pattern) closed(states, pattern) stepped(states, sign, pattern) value_text(value) quoted(text) "
              "sum_of(values) least_of(values, greatest)",
    "codec": "sign_number(sign) check_text(text) fixed(number, many) number_from(data) key_of_value(value) key_of(values) "
             "values_from_key(data) value_from_key(data, place) sign_at(number) natural(number) natural_from(data, place) "
             "record_of(row) row_from(data) value_from_record(data, place) checksum(data) upper_key(prefix)",
    "lexer": "tokenize(text) is_plain_name(text)",
    "parser": "parse(text) parse_script(text) parse_expression(text)",
    "printer": "level_of(tree) expression_text(tree) query_text(query) statement_text(statement)",
    "schema": "table_shown(table) table_from(shown) declared_table(statement) literal_value(tree, kind)",
    "scope": "find_column(scopes, alias, name) table_scope(table, alias) joined_scope(one, other)",
    "plans": "inputs(plan) with_inputs(plan, inner) width(plan) expressions_of(plan) with_expressions(plan, trees) "
             "tables_of(plan) bound_parts(tree) with_bound_parts(tree, inner) fields_in(tree, up=0) "
             "moved_fields(tree, table, up=0) is_correlated(tree) check_plan(plan) plan_size(plan)",
    "binder": "fitting(kinds) expect(kind, wanted) aggregate_kind(name, kind)",
    "translate": "output_field(columns, tree) translate(catalog, query) bind_value(catalog, scope, tree) "
                 "bind_truth(catalog, scope, tree)",
    "evaluate": "member(value, values) least_scalar(rows) sorted_once(values) aggregated(name, values) distinct_rows(rows) "
                "combined(word, whole, one, other) limited(limit, offset, rows)",
    "rewrite": "bound_conjuncts(tree) is_constant(tree) literal(value) folded(tree) merge(plan) is_distinct(plan) "
               "rewrite_once(name, plan) rewrite(plan, rules=('constants', 'merge', 'push', 'prune', 'distinct'))",
    "access": "sided(tree) asked_of(test, places) key_range(bounds, evaluator) selectivity(bounds, many) "
              "expected_rows(plan, counts)",
    "order": "leaves_and_tests(plan, shift) subsets(numbers, size) reorder(plan, counts)",
    "exprcode": "operation_row(tree) compile_expression(tree) stack_need(rows) stack_change(row) run_rows(rows, fields) "
                "carried(row, values)",
    "sorting": "ordered_pair(one, other, descending) merged_pair(one, other, descending) sorted_run(rows, descending) "
               "sort_rows(rows, descending, limit) run_count(many, limit)",
    "statistics": "summarize(values) summarize_rows(rows, width) expected_share(summaries, sides, many)",
    "physical": "equal_pairs(test, many) equal_pair(tree, many) literal_of(tree) run_plan(plan, source, compiled=False, limit=0) "
                "physical_inputs(plan) plan_words(plan)",
    "statement_codec": "tree_text(tree) tree_from_text(text) pieces(text, size)",
    "pages": "cell_room(block_size) page_bytes(page, block_size) page_from(data)",
    "journal": "frame(payload) image_record(number, data) end_record(stamp) read_frames(data) read_record(payload) "
               "read_groups(data) group_bytes(stamp, images)",
}
CLASSES = {
    "lexer": {"Token": "__init__(self, word, value, place) shown(self)"},
    "schema": {
        "Column": "__init__(self, name, kind, needed, value) shown(self)",
        "Index": "__init__(self, name, table, unique, places) shown(self)",
        "Table": "__init__(self, name, columns, primary, checks, references=()) column_names(self) place_named(self, name) "
                 "places_of(self, names) check_row(self, row)",
        "Catalog": "__init__(self) copied(self) table_named(self, name) indexes_of(self, table) add_table(self, table) "
                   "add_index(self, index) shown(self)",
    },
    "scope": {"Scope": "__init__(self, columns) places_named(self, alias, name) places_of_alias(self, alias)"},
    "evaluate": {"Evaluator": "__init__(self, source, rows=()) within(self, row) value_of(self, tree) plan_rows(self, plan)"},
    "access": {"Bounds": "__init__(self, equals, low, high) is_open(self) shown(self)"},
    "order": {"Joiner": "__init__(self, plans, tests, counts) joined_plan(self, order) cost(self, plan) best_order(self)"},
    "statistics": {"Summary": "__init__(self, rows, nulls, different, bounds) shown(self) equal_rows(self) "
                              "below_rows(self, value) range_rows(self, low, high)"},
    "physical": {"Chooser": "__init__(self, catalog, counts, indexed=True, joins=('nested', 'hash', 'merge'), summaries=None) "
                            "chosen(self, plan) best_way(self, name, test) expected(self, name, places, bounds)"},
    "disk": {"Disk": "__init__(self, block_size, blocks=None, log=()) arm(self, steps) step(self) has_block(self, number) "
                     "read_block(self, number) write_block(self, number, data) sync_blocks(self) append_log(self, data) "
                     "sync_log(self) clear_log(self) read_log(self) restarted(self, choices, kept)"},
    "pages": {"Page": "__init__(self, kind, link, cells) shown(self) size(self)"},
}
# Classes whose fields are read from outside: how one is made, and its fields with their values.
FIELDS = {
    "lexer": {"Token": (("int", 5, 3), {"word": "int", "value": 5, "place": 3})},
    "schema": {
        "Column": (("a", "int", True, 5), {"name": "a", "kind": "int", "needed": True, "value": 5}),
        "Index": (("i", "t", True, [0]), {"name": "i", "table": "t", "unique": True, "places": (0,)}),
        "Table": (("t", [], [], []), {"name": "t", "columns": (), "primary": (), "checks": (), "references": ()}),
        "Catalog": ((), {"tables": {}, "indexes": {}, "views": {}}),
    },
    "scope": {"Scope": (([("t", "a", "int")],), {"columns": (("t", "a", "int"),)})},
    "evaluate": {"Evaluator": ((None, [(1,)]), {"rows": ((1,),)})},
    "statistics": {"Summary": ((3, 1, 2, [(1, 5)]), {"rows": 3, "nulls": 1, "different": 2, "bounds": ((1, 5),)})},
    "physical": {"Chooser": (("catalog", {}, False), {"catalog": "catalog", "indexed": False})},
    "disk": {"Disk": ((96, {}, [1]), {"block_size": 96, "blocks": {}, "log": (1,), "waiting": [], "fuse": None, "dead": False, "steps": 0})},
    "pages": {"Page": ((2, 0, []), {"kind": 2, "link": 0, "cells": ()})},
    "access": {"Bounds": (([("null",)], None, ("<", ("null",))), {"equals": (("null",),), "low": None, "high": ("<", ("null",))})},
}


def listed(text):
    """Return (name, arguments) of functions that are listed in a text."""
    return [part.split("(", 1) for part in text.replace(") ", ")|").split("|")]


class InterfaceTest(unittest.TestCase):
    def test_fields(self):
        for module, classes in FIELDS.items():
            found = importlib.import_module(f"tablestack.{module}")
            for one, (arguments, fields) in classes.items():
                made = getattr(found, one)(*arguments)
                for name, value in fields.items():
                    self.assertEqual(getattr(made, name), value, (one, name))

    def test_functions(self):
        for module, text in FUNCTIONS.items():
            found = importlib.import_module(f"tablestack.{module}")
            for name, arguments in listed(text):
                function = getattr(found, name)
                self.assertEqual(str(inspect.signature(function)), f"({arguments}", name)
                self.assertEqual(function.__module__, found.__name__)

    def test_classes(self):
        for module, classes in CLASSES.items():
            found = importlib.import_module(f"tablestack.{module}")
            for one, text in classes.items():
                self.assertEqual(getattr(found, one).__module__, found.__name__)
                for name, arguments in listed(text):
                    method = vars(getattr(found, one))[name]
                    self.assertEqual(str(inspect.signature(method)), f"({arguments}", (one, name))


if __name__ == "__main__":
    unittest.main()

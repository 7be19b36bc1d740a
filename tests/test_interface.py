"""The interface and point 22: names, arguments and fields, in the file and the class under which they are listed."""

import importlib
import inspect
import unittest

from tablestack.cursor import Cursor
from tablestack.disk import Disk
from tablestack.server import connect

FUNCTIONS = {
    "values": "kind_of(value) in_range(number) rank(value) row_rank(row) same_kind(one, other) compare(sign, one, other) "
              "arithmetic(sign, one, other) concat(one, other) both(one, other) either(one, other) negated(truth) "
              "like(text, pattern) closed(states, pattern) stepped(states, sign, pattern) value_text(value) quoted(text) "
              "sum_of(values) least_of(values, greatest)",
    "codec": "sign_number(sign) check_text(text) fixed(number, many) number_from(data) key_of_value(value) key_of(values) "
             "values_from_key(data) value_from_key(data, place) sign_at(number) natural(number) natural_from(data, place) "
             "record_of(row) row_from(data) value_from_record(data, place) checksum(data) upper_key(prefix)",
    "lexer": "tokenize(text) is_plain_name(text)",
    "parser": "parse(text) parse_script(text) parse_expression(text)",
    "printer": "level_of(tree) expression_text(tree) query_text(query) statement_text(statement)",
    "schema": "table_shown(table) table_from(shown) declared_table(statement) literal_value(tree, kind)",
    "scope": "find_column(scopes, alias, name) table_scope(table, alias) joined_scope(one, other)",
    "plans": "inputs(plan) with_inputs(plan, inner) width(plan) expressions_of(plan) with_expressions(plan, trees) "
             "tables_of(plan) bound_parts(tree) with_bound_parts(tree, inner) fields_in(tree, up=0) "
             "moved_fields(tree, table, up=0) is_correlated(tree) check_plan(plan) plan_size(plan)",
    "binder": "fitting(kinds) expect(kind, wanted) aggregate_kind(name, kind)",
    "translate": "output_field(columns, tree) translate(catalog, query) bind_value(catalog, scope, tree) "
                 "bind_truth(catalog, scope, tree)",
    "evaluate": "member(value, values) least_scalar(rows) sorted_once(values) aggregated(name, values) distinct_rows(rows) "
                "combined(word, whole, one, other) limited(limit, offset, rows)",
    "rewrite": "bound_conjuncts(tree) is_constant(tree) literal(value) folded(tree) merge(plan) is_distinct(plan) "
               "rewrite_once(name, plan) rewrite(plan, rules=('constants', 'merge', 'push', 'prune', 'distinct'))",
    "access": "sided(tree) asked_of(test, places) key_range(bounds, evaluator) selectivity(bounds, many) "
              "expected_rows(plan, counts)",
    "order": "leaves_and_tests(plan, shift) subsets(numbers, size) reorder(plan, counts)",
    "exprcode": "operation_row(tree) compile_expression(tree) stack_need(rows) stack_change(row) run_rows(rows, fields) "
                "carried(row, values)",
    "sorting": "ordered_pair(one, other, descending) merged_pair(one, other, descending) sorted_run(rows, descending) "
               "sort_rows(rows, descending, limit) run_count(many, limit)",
    "statistics": "summarize(values) summarize_rows(rows, width) expected_share(summaries, sides, many)",
    "physical": "equal_pairs(test, many) equal_pair(tree, many) literal_of(tree) run_plan(plan, source, compiled=False, limit=0) "
                "physical_inputs(plan) plan_words(plan)",
    "statement_codec": "tree_text(tree) tree_from_text(text) pieces(text, size)",
    "pages": "cell_room(block_size) page_bytes(page, block_size) page_from(data)",
    "journal": "frame(payload) image_record(number, data) end_record(stamp) read_frames(data) read_record(payload) "
               "read_groups(data) group_bytes(stamp, images)",
    "pager": "format_disk(disk, capacity=16) recover(disk, capacity=16) is_same_page(one, other, block_size)",
    "btree": "children_of(page) child_for(page, key) halves(page)",
    "store": "version_key(row_key, stamp) split_version(key) check_indexes(store)",
    "engine": "open_engine(disk, capacity=16)",
    "explain": "bound_text(tree) operand_text(tree) operation_line(plan) explain_lines(plan, deep=0)",
    "server": "connect(disk, capacity=16, options=None)",
    "cursor": "open_cursor(session, text) fetch_all(cursor, many)",
    "console": "table_lines(names, rows) answer_lines(answer) fault_word(fault) parameter_places(text) "
               "filled(text, spots, values) literal_texts(text) normal_text(text)",
    "dump": "column_declaration(column) table_declaration(catalog, table) index_declaration(catalog, index) "
            "insert_texts(name, rows, many=5) dump(engine) table_order(catalog) view_order(catalog) "
            "restore(statements, disk, capacity=16)",
    "schedule": "statement_word(text) committed(events)",
    "inspect": "tree_report(name, tree) reports(engine) page_sorts(engine) damaged_blocks(disk) "
               "stale_blocks(engine) damaged(data) version_count(engine, name)",
}
CLASSES = {
    "lexer": {"Token": "__init__(self, word, value, place) shown(self)"},
    "schema": {
        "Column": "__init__(self, name, kind, needed, value) shown(self)",
        "Index": "__init__(self, name, table, unique, places) shown(self)",
        "Table": "__init__(self, name, columns, primary, checks, references=()) column_names(self) place_named(self, name) "
                 "places_of(self, names) check_row(self, row)",
        "Catalog": "__init__(self) copied(self) table_named(self, name) indexes_of(self, table) add_table(self, table) "
                   "add_index(self, index) shown(self)",
    },
    "scope": {"Scope": "__init__(self, columns) places_named(self, alias, name) places_of_alias(self, alias)"},
    "evaluate": {"Evaluator": "__init__(self, source, rows=()) within(self, row) value_of(self, tree) plan_rows(self, plan)"},
    "access": {"Bounds": "__init__(self, equals, low, high) is_open(self) shown(self)"},
    "order": {"Joiner": "__init__(self, plans, tests, counts) joined_plan(self, order) cost(self, plan) best_order(self)"},
    "statistics": {"Summary": "__init__(self, rows, nulls, different, bounds) shown(self) equal_rows(self) "
                              "below_rows(self, value) range_rows(self, low, high)"},
    "physical": {"Chooser": "__init__(self, catalog, counts, indexed=True, joins=('nested', 'hash', 'merge'), summaries=None) "
                            "chosen(self, plan) best_way(self, name, test) expected(self, name, places, bounds)"},
    "disk": {"Disk": "__init__(self, block_size, blocks=None, log=()) arm(self, steps) step(self) has_block(self, number) "
                     "read_block(self, number) write_block(self, number, data) sync_blocks(self) append_log(self, data) "
                     "sync_log(self) clear_log(self) read_log(self) restarted(self, choices, kept)"},
    "pages": {"Page": "__init__(self, kind, link, cells) shown(self) size(self)"},
    "pool": {
        "Pool": "__init__(self, disk, capacity) page(self, number) put(self, number, page) group_images(self) "
                "close_group(self) drop_group(self) flush(self)",
    },
    "pager": {
        "Pager": "__init__(self, disk, capacity=16) page_count(self) last_stamp(self) page(self, number) "
                 "put(self, number, page) fresh(self, page) free(self, number) free_pages(self) commit(self, stamp) "
                 "cancel(self) checkpoint(self)",
    },
    "btree": {
        "Tree": "__init__(self, pager, root) room(self) fits(self, key, value) path(self, key) lookup(self, key) "
                "put(self, key, value) remove(self, key) scan(self, low=(), high=None) page_numbers(self) "
                "clear(self) check(self)",
    },
    "store": {
        "TableStore": "__init__(self, table, tree, indexes) row_key(self, row, number) next_number(self) "
                      "visible(self, row_key, stamp) rows_at(self, stamp) rows_between(self, low, high, stamp) "
                      "index_key(self, index, row) index_rows(self, name, low, high, stamp) "
                      "write(self, row_key, row, stamp) vacuum(self, oldest)",
        "Store": "__init__(self, pager) create_table(self, table, indexes) create_view(self, name, query) "
                 "check(self)",
    },
    "engine": {
        "Transaction": "__init__(self, engine, stamp) keyed_rows(self, name) table_rows(self, name) "
                       "primary_rows(self, name, low, high) index_rows(self, name, low, high) "
                       "row(self, name, row_key) change(self, name, gone, rows)",
        "Engine": "__init__(self, pager) begin(self) next_number(self, name) conflicts(self, transaction) "
                  "commit(self, transaction) rollback(self, transaction) define(self, change) oldest(self) "
                  "vacuum(self) checkpoint(self) check(self)",
    },
    "server": {
        "Options": "__init__(self, rules=('constants', 'merge', 'push', 'prune', 'distinct'), reordered=True, indexed=True, joins=('nested', 'hash', 'merge'), compiled=True, limit=0)",
        "Answer": "__init__(self, word, names, rows, changed) shown(self)",
        "Session": "__init__(self, engine, options=None) run(self, text) run_script(self, text) "
                   "define(self, statement) within(self, statement, transaction) plan_rows(self, plan, transaction) "
                   "change(self, statement, transaction)",
    },
    "cursor": {
        "Cursor": "__init__(self, answer) fetch(self, many) skip(self, many) rest(self) close(self)",
    },
    "console": {
        "Console": "__init__(self, session) enter(self, line)",
    },
    "dump": {
        "Standby": "__init__(self, block_size) follow(self, disk) promote(self)",
    },
    "schedule": {
        "Event": "__init__(self, number, text, answer, fault) shown(self)",
        "Schedule": "__init__(self, engine, scripts, options=None) step(self, number) ready_sessions(self) "
                    "run(self, choices)",
        "Done": "__init__(self, number, first, last, events)",
    },
    "inspect": {
        "TreeReport": "__init__(self, name, depth, leaves, inner, entries, used) shown(self)",
    },
}
# Classes whose fields are read from outside: how one is made, and its fields with their values.
FIELDS = {
    "lexer": {"Token": (("int", 5, 3), {"word": "int", "value": 5, "place": 3})},
    "schema": {
        "Column": (("a", "int", True, 5), {"name": "a", "kind": "int", "needed": True, "value": 5}),
        "Index": (("i", "t", True, [0]), {"name": "i", "table": "t", "unique": True, "places": (0,)}),
        "Table": (("t", [], [], []), {"name": "t", "columns": (), "primary": (), "checks": (), "references": ()}),
        "Catalog": ((), {"tables": {}, "indexes": {}, "views": {}}),
    },
    "scope": {"Scope": (([("t", "a", "int")],), {"columns": (("t", "a", "int"),)})},
    "evaluate": {"Evaluator": ((None, [(1,)]), {"rows": ((1,),)})},
    "statistics": {"Summary": ((3, 1, 2, [(1, 5)]), {"rows": 3, "nulls": 1, "different": 2, "bounds": ((1, 5),)})},
    "physical": {"Chooser": (("catalog", {}, False), {"catalog": "catalog", "indexed": False})},
    "disk": {"Disk": ((96, {}, [1]), {"block_size": 96, "blocks": {}, "log": (1,), "waiting": [], "fuse": None,
        "dead": False, "steps": 0})},
    "pages": {"Page": ((2, 0, []), {"kind": 2, "link": 0, "cells": ()})},
    "pool": {"Pool": ((Disk(96), 3), {"capacity": 3, "pages": {}, "changed": {}, "reads": 0, "writes": 0})},
    "pager": {"Pager": ((Disk(96), 3), {"capacity": 3, "groups": 0})},
    "btree": {"Tree": (("pager", 5), {"pager": "pager", "root": 5})},
    "store": {"TableStore": (("table", "tree", {}), {"table": "table", "tree": "tree", "indexes": {}})},
    "engine": {"Transaction": (("engine", 5), {"engine": "engine", "stamp": 5, "own": {}, "read": {}})},
    "server": {
        "Options": ((), {"indexed": True}),
        "Answer": (("select", ["a"], [(1,)], 0), {"word": "select", "names": ("a",), "rows": ((1,),), "changed": 0}),
        "Session": (("engine",), {"engine": "engine", "transaction": None}),
    },
    "console": {"Console": (("session",), {"session": "session"})},
    "dump": {"Standby": ((96,), {"block_size": 96, "blocks": {}, "log": (), "copies": 0})},
    "schedule": {
        "Event": ((1, "begin", None, "fault"), {"number": 1, "text": "begin", "answer": None, "fault": "fault"}),
        "Schedule": (("engine", [["begin"]]), {"events": []}),
        "Done": ((1, 2, 3, ["e"]), {"number": 1, "first": 2, "last": 3, "events": ("e",)}),
    },
    "inspect": {
        "TreeReport": (("t", 1, 2, 3, 4, 5), {"name": "t", "depth": 1, "leaves": 2, "inner": 3, "entries": 4,
            "used": 5}),
    },
    "access": {"Bounds": (([("null",)], None, ("<", ("null",))),
        {"equals": (("null",),), "low": None, "high": ("<", ("null",))})},
}


def listed(text):
    """Return (name, arguments) of functions that are listed in a text."""
    return [part.split("(", 1) for part in text.replace(") ", ")|").split("|")]


class InterfaceTest(unittest.TestCase):
    def test_fields(self):
        for module, classes in FIELDS.items():
            found = importlib.import_module(f"tablestack.{module}")
            for one, (arguments, fields) in classes.items():
                made = getattr(found, one)(*arguments)
                for name, value in fields.items():
                    self.assertEqual(getattr(made, name), value, (one, name))

    def test_fields_of_an_open_database(self):
        disk = Disk(96)
        session = connect(disk, 3)
        engine = session.engine
        self.assertEqual((engine.stamp, engine.changed, engine.active, engine.pager.disk), (0, {}, [], disk))
        store = engine.store
        self.assertEqual((store.pager, store.catalog.tables, store.catalog_tree.root, store.stores),
            (engine.pager, {}, 1, {}))
        self.assertEqual((engine.pager.pool.capacity, session.options.indexed, session.transaction), (3, True, None))
        cursor = Cursor(session.run("select 1 as n"))
        self.assertEqual((cursor.names, cursor.rows, cursor.place, cursor.closed), (("n",), ((1,),), 0, False))

    def test_functions(self):
        for module, text in FUNCTIONS.items():
            found = importlib.import_module(f"tablestack.{module}")
            for name, arguments in listed(text):
                function = getattr(found, name)
                self.assertEqual(str(inspect.signature(function)), f"({arguments}", name)
                self.assertEqual(function.__module__, found.__name__)

    def test_classes(self):
        for module, classes in CLASSES.items():
            found = importlib.import_module(f"tablestack.{module}")
            for one, text in classes.items():
                self.assertEqual(getattr(found, one).__module__, found.__name__)
                for name, arguments in listed(text):
                    method = vars(getattr(found, one))[name]
                    self.assertEqual(str(inspect.signature(method)), f"({arguments}", (one, name))


if __name__ == "__main__":
    unittest.main()

import random
from itertools import permutations, product
from math import factorial

from drawclaims.counting import class_counts
from drawclaims.errors import (
    InvalidMarked, InvalidNumber, KnownRow, NotAPlan, NotATable, SameRank, UnknownRow,
)
from drawclaims.plans import Plan
from drawclaims.ratios import Ratio
from drawclaims.tables import Table, Watch, choose
from tests.helpers import OTHER, ProgramTest
from tests.reference import random_plans, run

NO_INTEGERS = (True, False, None, "1", "", b"1", (), (1,), [], [1], {}, Ratio(2), OTHER)
NO_KEYS = NO_INTEGERS + (-1, 10 ** 9 + 1, 10 ** 30)
NO_RANKS = NO_INTEGERS + (-10 ** 9 - 1, 10 ** 9 + 1, 10 ** 30)
NO_MARKS = (None, 0, 1, 2, "", "True", b"", (), (True,), [], {}, Ratio(0), Ratio(1), OTHER)
NO_PLANS = (None, True, 1, "- 01", ("-", "01"), [], {}, Ratio(1), OTHER, Plan)
KEYS = (0, 1, 2, 3, 500, 10 ** 9 - 1, 10 ** 9)
RANKS = (-10 ** 9, -5, -1, 0, 1, 7, 10 ** 9 - 1, 10 ** 9)


def table_of(*rows):
    """A table with these rows: key, rank, mark."""
    table = Table()
    for key, rank, marked in rows:
        table.put(key, rank, marked)
    return table


class ListTest(ProgramTest):
    """Tables beside plain lists of rows [key, rank, mark]."""

    def check(self, table, rows):
        self.assert_same((table.size, table.marked), (len(rows), len([row for row in rows if row[2]])))
        for _ in range(2):
            self.assert_same(list(table.order()), [row[0] for row in sorted(rows, key=lambda row: row[1])])
        known = {row[0]: row[2] for row in rows}
        for key in set(KEYS) | set(known):
            if key in known:
                self.assert_same(table.mark_of(key), known[key])
            else:
                self.assert_error(UnknownRow, {"key": key}, table.mark_of, key)

    def put(self, source, table, rows, key, rank, marked):
        calls = [lambda: table.put(key, rank, marked), lambda: table.put(marked=marked, rank=rank, key=key)]
        calls += [lambda: table.put(key, rank), lambda: table.put(rank=rank, key=key)] if not marked else []
        call = source.choice(calls)
        if key in [row[0] for row in rows]:
            self.assert_error(KnownRow, {"key": key}, call)
        elif rank in [row[1] for row in rows]:
            self.assert_error(SameRank, {"rank": rank}, call)
        else:
            self.assertIs(call(), None)
            rows.append([key, rank, marked])

    def drop(self, source, table, rows, key):
        call = source.choice([lambda: table.drop(key), lambda: table.drop(key=key)])
        found = [row for row in rows if row[0] == key]
        if found:
            self.assertIs(call(), None)
            rows.remove(found[0])
        else:
            self.assert_error(UnknownRow, {"key": key}, call)

    def change(self, source, table, rows, key, marked):
        call = source.choice([lambda: table.change(key, marked), lambda: table.change(marked=marked, key=key)])
        found = [row for row in rows if row[0] == key]
        if found:
            self.assertIs(call(), None)
            found[0][2] = marked
        else:
            self.assert_error(UnknownRow, {"key": key}, call)

    def step(self, source, table, rows, keys, ranks):
        key, marked = source.choice(keys), source.random() < 0.5
        kind = source.choice(("put", "put", "drop", "change"))
        if kind == "put":
            self.put(source, table, rows, key, source.choice(ranks), marked)
        elif kind == "drop":
            self.drop(source, table, rows, key)
        else:
            self.change(source, table, rows, key, marked)

    def test_many_steps(self):
        source = random.Random(1)
        table, rows = Table(), []
        for _ in range(1500):
            self.step(source, table, rows, KEYS, RANKS)
            self.check(table, rows)

    def test_whole_ranges(self):
        source = random.Random(2)
        keys = KEYS + tuple(source.randint(0, 10 ** 9) for _ in range(60))
        ranks = RANKS + tuple(source.randint(-10 ** 9, 10 ** 9) for _ in range(60))
        table, rows = Table(), []
        for step in range(900):
            self.step(source, table, rows, keys, ranks)
            if step % 7 == 0:
                self.check(table, rows)
        self.assertGreater(table.size, 10)

    def test_two_tables_in_turn(self):
        source = random.Random(3)
        tables = [(Table(), []) for _ in range(2)]
        for _ in range(300):
            table, rows = source.choice(tables)
            self.step(source, table, rows, KEYS, RANKS)
            for table, rows in tables:
                self.check(table, rows)

    def test_great_table(self):
        source = random.Random(4)
        ranks = source.sample(range(-10 ** 9, 10 ** 9), 3000)
        table = Table()
        for key, rank in enumerate(ranks):
            table.put(key, rank, key % 3 == 0)
        self.assert_same(list(table.order()), sorted(range(3000), key=lambda key: ranks[key]))
        self.assert_same((table.size, table.marked), (3000, 1000))

    def test_keys_and_ranks_are_free_again(self):
        table = table_of((1, 5, True))
        table.drop(1)
        table.put(1, 5)
        self.assert_same((list(table.order()), table.mark_of(1), table.marked), ([1], False, 0))
        table.put(2, -5, True)
        table.drop(1)
        table.put(3, 5, True)
        self.assert_same((list(table.order()), table.size, table.marked), ([2, 3], 2, 2))


class TableErrorsTest(ProgramTest):
    def setUp(self):
        self.table = table_of((1, 10, True), (2, -10, False), (0, 3, True))

    def refused(self, wanted, fields, call, *args, **more):
        self.assert_error(wanted, fields, call, *args, **more)
        self.assert_same((self.table.size, self.table.marked, list(self.table.order())), (3, 2, [2, 0, 1]))
        self.assert_same([self.table.mark_of(key) for key in (0, 1, 2)], [True, True, False])

    def test_keys(self):
        for wrong in NO_KEYS:
            for call, more in (
                (self.table.put, (None, None)), (self.table.drop, ()), (self.table.change, (None,)), (self.table.mark_of, ()),
            ):
                self.refused(InvalidNumber, {"number": wrong}, call, wrong, *more)
            self.refused(InvalidNumber, {"number": wrong}, self.table.put, marked=3, rank=None, key=wrong)
            self.refused(InvalidNumber, {"number": wrong}, self.table.change, marked=3, key=wrong)
            self.refused(InvalidNumber, {"number": wrong}, self.table.drop, key=wrong)
            self.refused(InvalidNumber, {"number": wrong}, self.table.mark_of, key=wrong)

    def test_known_and_unknown_rows(self):
        for key in (0, 1, 2):
            self.refused(KnownRow, {"key": key}, self.table.put, key, None, None)
            self.refused(KnownRow, {"key": key}, self.table.put, key, 10, False)
        for key in (3, 10, 10 ** 9):
            self.refused(UnknownRow, {"key": key}, self.table.drop, key)
            self.refused(UnknownRow, {"key": key}, self.table.change, key, None)
            self.refused(UnknownRow, {"key": key}, self.table.mark_of, key)

    def test_ranks(self):
        for wrong in NO_RANKS:
            self.refused(InvalidNumber, {"number": wrong}, self.table.put, 5, wrong, None)
        for rank in (10, -10, 3):
            self.refused(SameRank, {"rank": rank}, self.table.put, 5, rank, None)

    def test_marks(self):
        for wrong in NO_MARKS:
            self.refused(InvalidMarked, {"value": wrong}, self.table.put, 5, 5, wrong)
            self.refused(InvalidMarked, {"value": wrong}, self.table.put, 5, 5, marked=wrong)
            self.refused(InvalidMarked, {"value": wrong}, self.table.change, 1, wrong)

    def test_after_errors_the_key_is_free(self):
        self.refused(InvalidMarked, {"value": 1}, self.table.put, 5, 5, 1)
        self.table.put(5, 5, True)
        self.assert_same((list(self.table.order()), self.table.marked), ([2, 0, 5, 1], 3))

    def test_truth_and_equality(self):
        table = Table()
        self.assertTrue(table)
        self.assert_same((table == table, table != table, table == Table(), table != Table()), (True, False, False, True))
        self.assert_same((table.size, table.marked, list(table.order())), (0, 0, []))
        for value in NO_INTEGERS:
            self.assert_same((table == value, table != value), (False, True))


class Reader:
    """What a Watch should say, kept as plainly as possible: the keys whose marks it knows, by table."""

    def __init__(self):
        self.reads, self.knows = 0, set()

    def run(self, plan, rows):
        marks = []
        for key, _, marked in sorted(rows, key=lambda row: row[1]):
            if stopped(plan, marks):
                break
            if key not in self.knows:
                self.knows.add(key)
                self.reads += 1
            marks.append(int(marked))
        return (run(plan.rows, tuple(marks))[0] if stopped(plan, marks) else None), len(marks)

    def known(self, rows):
        return tuple(sorted((key, marked) for key, _, marked in rows if key in self.knows))


def stopped(plan, marks):
    return plan.rows[len(marks)][sum(marks)] != "-"


class WatchTest(ProgramTest):
    def test_all_small_tables(self):
        plans = random_plans(1, 12, 6) + [Plan.fixed(1, 0), Plan.fixed(4, 1), Plan.looks((1, 0), (3, 1)), Plan.fixed(20, 3)]
        for plan in plans:
            for size in range(7):
                for marks in product((False, True), repeat=size):
                    rows = [(key, -key, marked) for key, marked in enumerate(marks)]
                    watch, reader = Watch(table_of(*rows), plan), Reader()
                    self.assert_same((watch.run(), watch.reads), (reader.run(plan, rows), reader.reads))
                    self.assert_same(watch.known(), reader.known(rows))
                    self.assert_same((watch.run(), watch.reads), (reader.run(plan, rows), reader.reads))

    def test_results(self):
        table = Table()
        watch = Watch(table=table, plan=Plan.looks((1, 0), (3, 0)))
        self.assert_same((watch.run(), watch.reads, watch.known()), ((None, 0), 0, ()))
        table.put(5, 0, True)
        self.assert_same((watch.run(), watch.reads, watch.known()), ((None, 1), 1, ((5, True),)))
        table.put(4, -1)
        self.assert_same((watch.run(), watch.reads, watch.known()), ((0, 1), 2, ((4, False), (5, True))))
        table.change(4, True)
        self.assert_same((watch.reads, watch.known()), (2, ((5, True),)))
        self.assert_same((watch.run(), watch.reads), ((None, 2), 3))
        table.put(9, 8)
        self.assert_same((watch.run(), watch.reads, watch.known()), ((1, 3), 4, ((4, True), (5, True), (9, False))))

    def test_many_changes(self):
        for seed in range(12):
            self.follow(random.Random(seed))

    def follow(self, source):
        plans = random_plans(source.randint(1, 3), 6, 5) + [Plan.fixed(3, 0, 1)]
        table, rows = Table(), []
        readers = [(Watch(table, plans[0]), Reader()), (Watch(table, plans[1]), Reader())]
        for _ in range(150):
            self.change(source, table, rows, [reader for _, reader in readers])
            watch, reader = source.choice(readers)
            if source.random() < 0.3:
                plan = source.choice(plans)
                if source.random() < 0.5:
                    watch.chosen = plan
                else:
                    self.assertIs(choose(watch, plan), None)
                self.assertIs(watch.chosen, plan)
            if source.random() < 0.7:
                self.assert_same(watch.run(), reader.run(watch.chosen, rows))
            for watch, reader in readers:
                self.assert_same((watch.reads, watch.known()), (reader.reads, reader.known(rows)))

    def change(self, source, table, rows, readers):
        key, kind = source.randint(0, 7), source.choice(("put", "put", "drop", "change", "same", "again"))
        found = [row for row in rows if row[0] == key]
        if not found:
            rank, marked = source.randint(-10 ** 9, 10 ** 9), source.random() < 0.5
            if kind == "put":
                table.put(key, rank, marked)
                rows.append([key, rank, marked])
            return
        for reader in readers:
            if kind in ("drop", "change", "same", "again"):
                reader.knows.discard(key)
        row = found[0]
        if kind in ("drop", "again"):
            table.drop(key)
            rows.remove(row)
        if kind == "again":
            table.put(key, row[1], row[2])
            rows.append(row)
        if kind in ("change", "same"):
            row[2] = row[2] if kind == "same" else not row[2]
            table.change(key, row[2])

    def test_known_is_ascending(self):
        rows = [(key, -key, key % 2 == 0) for key in (3, 10, 200, 10 ** 9, 0)]
        watch = Watch(table_of(*rows), Plan.fixed(5, 0))
        watch.run()
        self.assert_same(watch.known(), ((0, True), (3, False), (10, True), (200, True), (10 ** 9, True)))

    def test_two_watches_on_one_table(self):
        table = table_of((1, 1, True), (2, 2, False))
        one, other = Watch(table, Plan.fixed(2, 0)), Watch(table, Plan.fixed(1, 0))
        self.assert_same((one.run(), other.reads, other.known()), ((1, 2), 0, ()))
        self.assert_same((other.run(), other.reads, one.reads), ((1, 1), 1, 2))
        self.assertIs(one.table, table)
        self.assert_same((one == one, one == other, one != other, one == Watch(table, one.chosen)), (True, False, True, False))
        self.assertTrue(one)


class ChosenTest(ProgramTest):
    def test_assigned(self):
        table = table_of((1, 1, True), (2, 2, False), (3, 3, False))
        watch = Watch(table, Plan.fixed(1, 0))
        self.assert_same((watch.run(), watch.chosen), ((1, 1), Plan.fixed(1, 0)))
        watch.chosen = Plan.fixed(3, 0, 1)
        self.assert_same((watch.run(), watch.reads), ((1, 3), 3))
        choose(plan=Plan.fixed(2, 1), watch=watch)
        self.assert_same((watch.run(), watch.reads, str(watch.chosen)), ((0, 2), 3, "- -- 001"))

    def test_wrong_plans(self):
        watch = Watch(table_of((1, 1, True)), Plan.fixed(1, 0))
        watch.run()
        for wrong in NO_PLANS:
            self.assert_error(NotAPlan, {"value": wrong}, choose, watch, wrong)
            self.assert_error(NotAPlan, {"value": wrong}, setattr, watch, "chosen", wrong)
            self.assert_same((watch.chosen, watch.run(), watch.reads, watch.known()), (Plan.fixed(1, 0), (1, 1), 1, ((1, True),)))

    def test_making(self):
        for wrong in NO_PLANS + (Table, Plan.fixed(1, 0)):
            self.assert_error(NotATable, {"value": wrong}, Watch, wrong, None)
            self.assert_error(NotATable, {"value": wrong}, Watch, plan=None, table=wrong)
        for wrong in NO_PLANS:
            self.assert_error(NotAPlan, {"value": wrong}, Watch, Table(), wrong)


class OrdersTest(ProgramTest):
    def test_each_class_comes_as_often_as_counted(self):
        for plan in random_plans(7, 10, 4) + [Plan.fixed(2, 0), Plan.fixed(3, 0, 1, 2)]:
            size = 5
            for marked in range(size + 1):
                counts = [0] * plan.classes
                for ranks in permutations(range(size)):
                    table = table_of(*[(key, rank, key < marked) for key, rank in enumerate(ranks)])
                    counts[Watch(table, plan).run()[0]] += 1
                times = factorial(size - plan.longest)
                self.assert_same(tuple(counts), tuple(count * times for count in class_counts(plan, size, marked)))

"""The whole document: long histories over tables of every class, with cursors, views, audits and a journal."""

from entryhall.attempts import Attempt, Trial, run_all, try_all
from entryhall.audit import faults, longest_trail, looks, rebuilt
from entryhall.cursors import CodeCursor, Cursor, drain, walk_items, walk_keys, walk_slots
from entryhall.errors import Absent, ChangedKeys, ChangedSize, Fault, TableError
from entryhall.family import (
    BoundedJournaled,
    BoundedTable,
    DefaultRecent,
    DefaultTable,
    JournaledBounded,
    JournaledTable,
    Numbering,
    OrderedTable,
    RecentTable,
)
from entryhall.journal import Journal
from entryhall.pairs import PairList
from entryhall.pictures import Picture, steps_between
from entryhall.seeking import seek_key, trail
from entryhall.steps import outcomes, run_steps
from entryhall.table import Table
from entryhall.unruly import Key, MeddlingKey
from entryhall.views import ItemView, KeyView, ValueView
from tests.helpers import Case
from tests.oracle import faults_of, row_of
from tests.test_histories import CROWDED, PLAIN, Numbers, objects
from tests.test_journaled import Deep, Mine, Other, Third, replayed
from tests.test_layouts import STEPS, wild_keys

CLASSES = [Table, BoundedTable, JournaledTable, DefaultTable, OrderedTable, RecentTable, DefaultRecent,
           JournaledBounded, BoundedJournaled, Mine, Other, Third, Deep]


def new(made):
    """A table of a class, with a maker and a bound where it has them."""
    named = {"bound": 5} if issubclass(made, BoundedTable) else {}
    if issubclass(made, DefaultTable):
        named["maker"] = Numbering(100)
    return made(**named)


class History:
    """A table of a class, with a journal, cursors and views of it."""

    def __init__(self, made, keys, start):
        self.table, self.numbers = new(made), Numbers(start)
        self.keys, self.well_behaved = keys or wild_keys(self.numbers, self.table), keys is not None
        self.journal = Journal(self.table)
        self.cursors = [Cursor(self.table), CodeCursor(self.table, 0, 2 ** 31, backwards=True)]
        self.number = 0

    def key(self):
        return self.keys[self.numbers.below(len(self.keys))]

    def step(self):
        self.number += 1
        kinds = [self.change, self.change, self.change, self.remove, self.read, self.special, self.size, self.undo,
                 self.walk, self.block]
        kinds[self.numbers.below(len(kinds))]()

    def change(self):
        key, kind = self.key(), self.numbers.below(5)
        if kind < 3:
            self.table.put(key, self.number)
        elif kind == 3:
            self.table.set_default(key, self.number)
        else:
            self.table.merge([(key, self.number), (self.key(), 0)], Table([(8, 1), (16, 2)]), self.table)

    def remove(self):
        key, kind = self.key(), self.numbers.below(12)
        if kind < 5:
            self.table.drop(key)
        elif kind < 8:
            self.table.take(key)
        elif kind < 10:
            self.table.pop_last()
        elif kind == 10:
            list(drain(self.table, most=2))
        elif self.number % 3 == 0:
            self.table.clear()

    def read(self):
        key = self.key()
        self.table.fetch(key), self.table.get(key), self.table.has(key), self.table.probe_count(key)

    def special(self):
        table, key, kind = self.table, self.key(), self.numbers.below(3)
        if kind == 0 and isinstance(table, BoundedTable):
            table.set_bound(1 + self.numbers.below(9))
        elif kind == 1 and isinstance(table, OrderedTable):
            [table.move_last, table.move_first, table.place_of][self.numbers.below(3)](key)
        elif isinstance(table, OrderedTable):
            table.pop_first()

    def size(self):
        step = STEPS[4 + self.numbers.below(5)]
        if step != ("clear",) and not (step[0] == "reserve" and self.number % 4):
            run_steps(self.table, step, ("compact",))

    def undo(self):
        kind = self.numbers.below(6)
        if kind == 0:
            self.journal.accept()
        elif kind < 4:
            self.journal.do([("put", self.key(), self.number), ("drop", self.key()), ("compact",)][kind - 1])
        else:
            [self.journal.undo, self.journal.redo][kind - 4]()

    def walk(self):
        cursor = self.cursors[self.numbers.below(2)]
        kind = self.numbers.below(7)
        if cursor.has_ended or cursor.is_stale:
            cursor.restart()
        if kind < 3:
            cursor.skip(kind)
        elif kind == 3:
            cursor.drop_current()
        elif kind == 4:
            cursor.set_current(self.number)
        else:
            cursor.twin().take_many(kind)

    def block(self):
        kind, steps = self.numbers.below(4), [("put", self.key(), self.number), ("drop", self.key())]
        if kind == 0:
            try_all(self.table, *steps)
        elif kind == 1:
            run_all(self.table, *steps)
        elif kind == 2:
            outcomes(self.table, *steps, ("reserve", -1))
        else:
            with Trial(self.table):
                self.table.merge([(number, 0) for number in range(9)])
                with Attempt(self.table):
                    self.table.clear()


class Whole(Case):
    def check(self, history, marks):
        table = history.table
        layout = table.layout()
        self.assertEqual((faults(layout), faults_of(layout)), ([], []))
        self.assertGreaterEqual((table.mark, table.changes), marks)
        self.assertGreaterEqual(table.changes, marks[1])
        if isinstance(table, JournaledTable) and history.well_behaved:
            told, pairs = replayed(table.records), list(table.each_pair())
            # Moves are not recorded, so the records tell nothing of an order with moves.
            self.assertEqual(dict(told), dict(pairs))
            if not isinstance(table, OrderedTable):
                self.assertEqual(told, pairs)

    def run_history(self, made, keys, start, steps):
        history = History(made, keys, start)
        done = 0
        for _ in range(steps):
            marks = history.table.mark, history.table.changes
            try:
                history.step()
                done += 1
            except (TableError, Absent, Fault, ZeroDivisionError):
                pass
            self.check(history, marks)
        return done

    def test_tables_of_every_class_with_well_behaved_keys(self):
        for made in CLASSES:
            for start, keys in enumerate([PLAIN, CROWDED, objects() + [0, 8, 16, "a"]]):
                self.assertGreater(self.run_history(made, keys, start, 150), 75)

    def test_tables_of_every_class_with_wild_keys(self):
        for made in CLASSES:
            self.assertGreater(self.run_history(made, None, 11, 150), 30)

    def test_a_bound_is_never_exceeded_where_nothing_is_restored(self):
        for made in [cls for cls in CLASSES if issubclass(cls, BoundedTable)]:
            for start in range(2):
                history = History(made, PLAIN + CROWDED, start)
                for _ in range(200):
                    try:
                        [history.change, history.remove, history.read, history.special, history.walk][
                            history.numbers.below(5)]()
                    except (TableError, Absent, Fault):
                        pass
                    self.assertLessEqual(history.table.live, history.table.bound)


class Together(Case):
    """What the files of the package say of the same table."""

    def tables(self):
        for made in CLASSES:
            table = new(made)
            for number, key in enumerate(CROWDED + objects()):
                table.put(key, number % 4)
                if number % 3 == 0:
                    table.take(CROWDED[number // 2])
            yield table

    def test_views_cursors_walks_pictures_and_lists_show_the_same(self):
        for table in self.tables():
            pairs = list(table.each_pair())
            self.assertGreater(len(pairs), 2)
            self.assertEqual(list(walk_items(table)), pairs)
            self.assertEqual(list(walk_keys(table, backwards=True)), [pair[0] for pair in pairs[::-1]])
            self.assertEqual(Cursor(table).take_many(99), pairs)
            self.assertEqual(CodeCursor(table, 0, 2 ** 32 - 1, backwards=True).take_many(99), pairs[::-1])
            self.assertEqual(KeyView(table).listed(), [pair[0] for pair in pairs])
            self.assertEqual(ValueView(table).listed(), [pair[1] for pair in pairs])
            self.assertEqual((ItemView(table).listed(), list(Picture.of(table).pairs)), (pairs, pairs))
            self.assertTrue(PairList(table).agrees(table) and table.copy().same_pairs(table))
            self.assertEqual(ItemView(table).delta_to(table.copy()), ([], [], []))
            self.assertIs(KeyView(table).same_order(table), True)

    def test_audits_know_the_lookups(self):
        for table in self.tables():
            layout = table.layout()
            walked = dict((index, slot) for slot, index in walk_slots(table))
            self.assertEqual(len(walked), table.live)
            for index, entry in enumerate(layout[2]):
                if entry is not None:
                    look = row_of(entry[1], layout[1]).index(walked[index]) + 1
                    self.assertEqual(looks(layout)[index], look)
                    if not isinstance(entry[0], Key):
                        self.assertEqual(seek_key(table, entry[0])[::2], (walked[index], look))
                    self.assertIn((walked[index], index), trail(table, entry[1]))
            self.assertEqual(longest_trail(layout), max(look for look in looks(layout) if look))
            copy = table.copy()
            self.assertEqual(rebuilt(layout, table.size)[:3], copy.layout()[:3])

    def test_steps_between_pictures_undo_what_others_did(self):
        for table in self.tables():
            picture, journal = Picture.of(table), Journal(table)
            mark = table.mark
            for step in [("drop", 3), ("put", "new", 1), ("clear",), ("put", "a", 2)]:
                try:
                    journal.do(step)
                except Absent:
                    pass
            while journal.done:
                journal.undo()
            self.assertEqual(Picture.of(table).pairs, picture.pairs)
            self.assertEqual(steps_between(picture, Picture.of(table)), [])
            self.assertGreater(table.mark, mark)

    def test_merging_every_class_into_every_class(self):
        plain = Table([(key, 0) for key in CROWDED[:4]])
        for made in CLASSES:
            for table in self.tables():
                own = new(made)
                own.merge(plain, table)
                keys = list(dict.fromkeys(list(plain.each_key()) + list(table.each_key())))
                if not isinstance(own, BoundedTable):
                    self.assertEqual(list(own.each_key()), keys)
                else:
                    self.assertEqual(len(list(own.each_key())), min(5, own.live))
                self.assertTrue(own.copy().same_pairs(own))
                self.assertIs(type(own.copy()), Table)

    def test_cursors_see_what_classes_do(self):
        table = BoundedTable([("a", 1), ("b", 2)], bound=2)
        cursor = Cursor(table)
        # One entry more and one less: live is the noted number again.
        table.put("c", 3)
        self.refused(ChangedKeys, cursor.step)
        table = RecentTable([("a", 1), ("b", 2)], bound=2)
        cursor = Cursor(table)
        self.assertEqual((table.fetch("b"), cursor.step()), (2, ("a", 1)))
        table.fetch("a")
        self.refused(ChangedKeys, cursor.step)
        table = DefaultTable(maker=Numbering())
        cursor = Cursor(table)
        table.fetch("a")
        self.assertEqual(self.refused(ChangedSize, cursor.step), 0)

    def test_views_of_special_tables_raise_changed_keys(self):
        table = OrderedTable([("a", 1), ("b", 2)])
        table.put(MeddlingKey("m", 5, table, (("drop", "a"), ("put", "a", 1))), 3)
        self.refused(ChangedKeys, KeyView(Table([(5, 0)])).both, table)
        self.assertEqual(list(table.each_key())[0], "b")

    def test_a_lookup_that_a_bound_disturbs_starts_over(self):
        table = BoundedTable([("a", 1), ("b", 2)], bound=3)
        meddler = MeddlingKey("m", 5, table, (("put", "c", 3),))
        table.put(meddler, 4)
        table.put(5, "five")
        self.assertEqual((list(table.each_value()), table.evicted), ([4, 3, "five"], (("a", 1), ("b", 2))))

    def test_the_mark_tells_of_each_change(self):
        table = JournaledBounded([("a", 1)], bound=1)
        self.assertEqual((table.mark, table.changes), (1, 1))
        table.put("b", 2)
        self.assertEqual((table.mark, table.changes), (3, 3))
        with Trial(table):
            table.clear()
        self.assertEqual((table.mark, table.changes), (4, 4))
        journal = Journal(table)
        journal.do(("put", "c", 3))
        journal.undo()
        self.assertEqual((table.mark, table.changes), (7, 7))

"""Points 66 and 68, and the interface, "entryhall/journal.py"."""

from entryhall.audit import faults
from entryhall.cursors import Cursor
from entryhall.errors import BadKey, BadStep, ChangedKeys, Empty, Locked, MatchFault, Missing, NotHeld, TooLarge
from entryhall.family import BoundedJournaled, BoundedTable, JournaledBounded, OrderedTable
from entryhall.journal import Journal
from entryhall.table import Table
from entryhall.unruly import FailingKey, MeddlingKey, Trace, TracedKey
from tests.helpers import Case
from tests.test_attempts import Stop, state
from tests.test_histories import Numbers
from tests.test_lookups import Own
from tests.test_steps import NO_STEPS

PUTS = [("put", number, number) for number in range(40)]


def steps_of(journal):
    return journal.done, journal.undone


class Journals(Case):
    def stays(self, table, journal, error, call, *given):
        """Expect an error that changes neither the table nor the journal."""
        before = state(table), table.mark, table.changes, steps_of(journal)
        told = self.refused(error, call, *given)
        self.assertEqual((state(table), table.mark, table.changes, steps_of(journal)), before)
        return told


class DoUndoRedo(Journals):
    def test_a_new_journal(self):
        table = Table([("a", 1)])
        journal = Journal(table=table)
        self.assertEqual((Journal.MAX_STEPS, journal.MAX_STEPS, steps_of(journal)), (20, 20, ((), ())))
        self.stays(table, journal, Empty, journal.undo)
        self.stays(table, journal, Empty, journal.redo)
        for name in ("done", "undone"):
            with self.assertRaises(AttributeError):
                setattr(journal, name, ())

    def test_the_example_of_the_document(self):
        table = Table([("a", 1), ("b", 2)])
        journal = Journal(table)
        self.assertIsNone(journal.do(("drop", "a")))
        journal.do(step=("put", "a", 3))
        told = (journal.undo(), journal.undo(), list(table.each_pair()))
        self.assertEqual(told, (("put", "a", 3), ("drop", "a"), [("a", 1), ("b", 2)]))
        told = (journal.redo(), journal.done, journal.undone, list(table.each_key()))
        self.assertEqual(told, (("drop", "a"), (("drop", "a"),), (("put", "a", 3),), ["b"]))

    def test_states_are_restored_whole(self):
        steps = [("put", "f", 6), ("drop", "b"), ("compact",), ("put", "c", 9), ("reserve", 50), ("put", "g", 7),
                 ("clear",), ("put", "h", 8), ("shrink",)]
        for made in (JournaledBounded, BoundedJournaled):
            table = made([("a", 1), ("b", 2), ("c", 3), ("d", 4), ("e", 5)], bound=4)
            table.drop("d")
            journal, states = Journal(table), [state(table)]
            for step in steps:
                journal.do(step)
                states.append(state(table))
            for _ in range(2):
                for number in range(len(steps) - 1, -1, -1):
                    self.assertEqual((journal.undo(), state(table)), (steps[number], states[number]))
                    self.assertEqual(steps_of(journal), (tuple(steps[:number]), tuple(steps[number:])))
                    self.assertEqual(faults(table.layout()), [])
                for number, step in enumerate(steps):
                    self.assertEqual((journal.redo(), state(table)), (step, states[number + 1]))
                    self.assertEqual(steps_of(journal), (tuple(steps[:number + 1]), tuple(steps[number + 1:])))

    def test_undo_and_redo_add_1_to_the_mark_and_to_the_changes(self):
        table = Table([("a", 1)])
        journal = Journal(table)
        for step in [("put", "a", 2), ("compact",), ("put", "b", 3), ("reserve", 50), ("clear",)]:
            journal.do(step)
        mark, changes = table.mark, table.changes
        for more, call in enumerate([journal.undo] * 5 + [journal.redo] * 5, 1):
            call()
            self.assertEqual((table.mark, table.changes), (mark + more, changes + more))

    def test_a_new_step_forgets_the_undone_ones(self):
        table = Table()
        journal = Journal(table)
        for step in PUTS[:4]:
            journal.do(step)
        journal.undo(), journal.undo()
        journal.do(("put", "x", 0))
        self.assertEqual(steps_of(journal), ((PUTS[0], PUTS[1], ("put", "x", 0)), ()))
        self.stays(table, journal, Empty, journal.redo)
        self.assertEqual([journal.undo()[1] for _ in range(3)], ["x", 1, 0])
        self.assertEqual(table.live, 0)

    def test_at_most_20_done_steps_are_kept(self):
        table = Table()
        journal = Journal(table)
        for number, step in enumerate(PUTS, 1):
            journal.do(step)
            self.assertEqual(journal.done, tuple(PUTS[max(0, number - 20):number]))
        for step in PUTS[:19:-1]:
            self.assertEqual(journal.undo(), step)
        self.stays(table, journal, Empty, journal.undo)
        self.assertEqual((list(table.each_key()), journal.undone), (list(range(20)), tuple(PUTS[20:])))
        for step in PUTS[20:]:
            self.assertEqual(journal.redo(), step)
        self.stays(table, journal, Empty, journal.redo)
        self.assertEqual((table.live, len(journal.done)), (40, 20))

    def test_tuples_that_were_read_stay(self):
        journal = Journal(Table())
        journal.do(PUTS[0])
        done, undone = steps_of(journal)
        journal.do(PUTS[1]), journal.undo()
        self.assertEqual((done, undone), ((PUTS[0],), ()))
        self.assertEqual([type(rows) for rows in steps_of(journal)], [tuple, tuple])

    def test_nothing_is_asked(self):
        trace = Trace()
        table = Table([(TracedKey("a", 5, trace), 0)])
        journal = Journal(table)
        journal.do(("put", TracedKey("b", 5, trace), 1))
        start = len(trace.events())
        journal.undo(), journal.redo(), journal.undo(), journal.accept()
        self.assertEqual(trace.events()[start:], [])

    def test_a_key_is_asked_once_when_its_step_is_done(self):
        trace = Trace()
        journal = Journal(Table([(5, 0)]))
        journal.do(("put", TracedKey("b", 5, trace), 1))
        self.assertEqual(trace.events(), [("code", "b"), ("matches", "b", 5)])

    def test_the_very_values(self):
        value = []
        table = Table([("a", value)])
        journal = Journal(table)
        journal.do(("put", "a", 2))
        journal.undo()
        self.assertIs(table.fetch("a"), value)

    def test_redo_gives_the_state_as_it_was_when_the_step_was_done(self):
        table = Table([("a", 1), ("b", 2)])
        journal = Journal(table)
        journal.do(("put", "a", 3))
        # A replaced value is no change that the journal has to know of.
        table.put("b", "other")
        journal.do(("put", "c", 4))
        journal.undo()
        self.assertEqual(list(table.each_pair()), [("a", 3), ("b", "other")])
        journal.undo()
        self.assertEqual(list(table.each_pair()), [("a", 1), ("b", 2)])
        journal.redo()
        self.assertEqual(list(table.each_pair()), [("a", 3), ("b", 2)])
        journal.redo()
        self.assertEqual(list(table.each_pair()), [("a", 3), ("b", "other"), ("c", 4)])

    def test_later_changes_leave_what_was_kept_alone(self):
        table = Table([("a", 1)])
        journal = Journal(table)
        journal.do(("put", "b", 2))
        journal.undo()
        table.put("a", "other")
        journal.redo()
        table.put("a", "again")
        self.assertEqual((journal.undo(), list(table.each_pair())), (("put", "b", 2), [("a", 1)]))
        journal.redo()
        self.assertEqual(list(table.each_pair()), [("a", 1), ("b", 2)])

    def test_long_rows_against_lists_of_states(self):
        for start in range(4):
            numbers, table = Numbers(start), BoundedTable(bound=6)
            journal, done, undone = Journal(table), [], []
            for number in range(300):
                kind = numbers.below(10)
                if kind < 5:
                    key = numbers.below(9) * 8
                    step = [("put", key, number), ("drop", key), ("compact",), ("reserve", key)][numbers.below(4)]
                    before = state(table)
                    try:
                        journal.do(step)
                    except Missing:
                        continue
                    done, undone = (done + [(step, before, state(table))])[-20:], []
                elif kind < 8 and done:
                    undone.insert(0, done.pop())
                    self.assertEqual((journal.undo(), state(table)), undone[0][:2])
                elif undone:
                    done.append(undone.pop(0))
                    self.assertEqual((journal.redo(), state(table)), done[-1][::2])
                self.assertEqual(steps_of(journal), tuple(tuple(row[0] for row in rows) for rows in (done, undone)))
                self.assertEqual(faults(table.layout()), [])


class StepsThatRaise(Journals):
    def test_done_and_undone_stay_and_the_journal_goes_on(self):
        table = Table([("a", 1), ("b", 2)])
        journal = Journal(table)
        journal.do(PUTS[0]), journal.do(PUTS[1]), journal.undo()
        failing = FailingKey("f", 658, 0, 1)
        for error, step in [(Missing, ("drop", "x")), (BadKey, ("put", True, 1)), (MatchFault, ("drop", failing))]:
            self.stays(table, journal, error, journal.do, step)
        self.assertEqual((journal.redo(), journal.undo(), journal.undo()), (PUTS[1], PUTS[1], PUTS[0]))
        self.assertEqual(list(table.each_key()), ["a", "b"])

    def test_the_table_is_restored_and_the_mark_taken_as_it_is(self):
        def change_and_stop():
            table.put("z", 1), table.drop("z")
            raise Stop

        table = JournaledBounded([("a", 1), (5, 2)], bound=2)
        journal = Journal(table)
        journal.do(("put", "a", 3))
        before, mark = state(table), table.mark
        with self.assertRaises(Stop):
            journal.do(("drop", Own(5, True, change_and_stop)))
        self.assertEqual((state(table), journal.done), (before, (("put", "a", 3),)))
        self.assertGreater(table.mark, mark)
        journal.do(("put", "a", 4))
        self.assertEqual((journal.undo(), journal.undo(), table.get("a")), (("put", "a", 4), ("put", "a", 3), 1))

    def test_undone_steps_can_be_redone_behind_one_that_raised_in_the_middle(self):
        table = Table([("a", 1)])
        journal = Journal(table)
        journal.do(("put", "b", 2)), journal.undo()
        meddler = MeddlingKey("m", 658, table, (("put", "c", 3), ("drop", "x")))
        self.refused(Missing, journal.do, ("put", meddler, 0))
        self.assertEqual((journal.undone, list(table.each_key())), ((("put", "b", 2),), ["a"]))
        self.assertEqual((journal.redo(), list(table.each_key())), (("put", "b", 2), ["a", "b"]))

    def test_too_large_and_locked(self):
        table = Table([(number, 0) for number in range(600)])
        journal = Journal(table)
        self.assertEqual(self.stays(table, journal, TooLarge, journal.do, ("put", -1, 0)), 600)
        table.hold()
        self.stays(table, journal, Locked, journal.do, ("drop", 0))
        journal.do(("put", 0, "new"))
        self.assertEqual(journal.done, (("put", 0, "new"),))

    def test_no_steps(self):
        table = Table([("a", 1)])
        journal = Journal(table)
        journal.do(PUTS[0])
        for thing in NO_STEPS:
            self.assertEqual(self.stays(table, journal, BadStep, journal.do, thing), 0)


class ChangesByOthers(Journals):
    def done_and_undone(self):
        table = OrderedTable([("a", 1), ("b", 2)])
        journal = Journal(table)
        journal.do(("put", "c", 3)), journal.do(("put", "d", 4)), journal.undo()
        return table, journal

    def test_each_change_that_counts(self):
        for change in [lambda it: it.put("z", 0), lambda it: it.drop("a"), lambda it: it.reserve(100),
                       lambda it: it.clear(), lambda it: it.move_last("a"), lambda it: it.move_first("c"),
                       lambda it: it.pop_first(), lambda it: Journal(it).do(("drop", "a")),
                       lambda it: (it.put("z", 0), it.drop("z"))]:
            table, journal = self.done_and_undone()
            change(table)
            for call in (journal.undo, journal.redo, lambda: journal.do(PUTS[0]), lambda: journal.do(("drop", "x"))):
                for _ in range(2):
                    self.stays(table, journal, ChangedKeys, call)

    def test_what_is_no_change(self):
        table, journal = self.done_and_undone()
        table.put("a", "new"), table.replace_at(1, "newer"), table.get("a"), table.fetch("b"), table.compact()
        table.hold(), table.release(), table.copy().clear(), table.layout(), table.merge(table), table.move_last("c")
        cursor = Cursor(table)
        cursor.step(), cursor.set_current("last")
        self.refused(NotHeld, table.release)
        told = [journal.redo(), journal.undo(), journal.undo()]
        self.assertEqual(told, [("put", "d", 4), ("put", "d", 4), ("put", "c", 3)])

    def test_accept(self):
        table, journal = self.done_and_undone()
        table.put("z", 0)
        self.assertIsNone(journal.accept())
        self.assertEqual((steps_of(journal), list(table.each_key())), (((), ()), ["a", "b", "c", "z"]))
        self.stays(table, journal, Empty, journal.undo)
        self.stays(table, journal, Empty, journal.redo)
        journal.do(("drop", "z"))
        self.assertEqual((journal.undo(), table.has("z")), (("drop", "z"), True))

    def test_accept_forgets_without_a_change_too(self):
        table, journal = self.done_and_undone()
        mark = table.mark
        journal.accept()
        self.assertEqual((steps_of(journal), table.mark), (((), ()), mark))

    def test_two_journals(self):
        table = Table()
        one, other = Journal(table), Journal(table)
        one.do(("put", "a", 1))
        self.refused(ChangedKeys, other.do, ("put", "b", 2))
        other.accept()
        one.undo()
        self.refused(ChangedKeys, other.do, ("put", "b", 2))

    def test_the_order_of_errors(self):
        table = Table([("a", 1)])
        journal = Journal(table)
        table.put("z", 0)
        table.hold()
        self.stays(table, journal, Empty, journal.undo)
        self.stays(table, journal, Empty, journal.redo)
        self.assertEqual(self.stays(table, journal, BadStep, journal.do, ("drop",)), 0)
        self.stays(table, journal, ChangedKeys, journal.do, ("clear",))
        table, journal = self.done_and_undone()
        table.hold()
        self.stays(table, journal, Locked, journal.undo)
        self.stays(table, journal, Locked, journal.redo)
        table.release()
        table.drop("a")
        table.hold()
        self.stays(table, journal, ChangedKeys, journal.undo)
        self.stays(table, journal, ChangedKeys, journal.redo)

    def test_holds_are_left_as_they_are(self):
        table = Table([("a", 1)])
        journal = Journal(table)
        table.hold()
        journal.do(("put", "a", 2))
        table.release()
        journal.undo()
        self.assertIs(table.is_held, False)
        journal.redo()
        self.assertEqual((table.is_held, table.get("a")), (False, 2))

    def test_the_bound_is_left_as_it_is(self):
        table = BoundedTable([("a", 1), ("b", 2)], bound=2)
        journal = Journal(table)
        journal.do(("put", "c", 3))
        table.set_bound(5)
        self.assertEqual((journal.undo(), table.bound, table.evicted), (("put", "c", 3), 5, ()))
        self.assertEqual(list(table.each_key()), ["a", "b"])
        journal.redo()
        self.assertEqual((table.evicted, table.bound, table.live), ((("a", 1),), 5, 2))

    def test_records_that_others_forget_come_back(self):
        table = JournaledBounded(bound=2)
        journal = Journal(table)
        journal.do(("put", "a", 1))
        table.forget()
        journal.do(("put", "b", 2))
        self.assertEqual(table.records, (("added", "b", 2),))
        journal.undo()
        self.assertEqual(table.records, ())
        journal.undo(), journal.redo()
        self.assertEqual(table.records, (("added", "a", 1),))

    def test_cursors_become_stale(self):
        table, journal = self.done_and_undone()
        for call in (journal.redo, journal.undo):
            cursor = Cursor(table)
            call()
            self.assertIs(cursor.is_stale, True)

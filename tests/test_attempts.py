"""Points 25, 66 and 67, and the interface, "entryhall/attempts.py"."""

from entryhall.attempts import Attempt, Holding, Trial, run_all, run_held, try_all
from entryhall.audit import faults
from entryhall.cursors import Cursor
from entryhall.errors import BadKey, BadStep, ChangedKeys, ChangedSize, Locked, MatchFault, Missing, NotHeld
from entryhall.family import BoundedTable, JournaledBounded, JournaledTable, RecentTable
from entryhall.table import Table
from entryhall.unruly import FailingKey, MeddlingKey, Trace, TracedKey
from tests.helpers import Case, look
from tests.test_lookups import Own
from tests.test_steps import NO_STEPS


class Stop(Exception):
    """An error that is not of this package."""


def holes():
    """A journaled table with a bound, evicted pairs and holes."""
    table = JournaledBounded([("a", 1), ("b", 2), ("c", 3), ("d", 4), ("e", 5)], bound=4)
    table.drop("c")
    return table


def state(table):
    """What a block restores."""
    noted = [getattr(table, name) for name in ("records", "evicted") if hasattr(table, name)]
    return table.layout()[:3], list(table.each_pair()), table.is_held, noted


CHANGES = [
    lambda it: it.put("z", 9),
    lambda it: it.put("b", "new"),
    lambda it: it.drop("b"),
    lambda it: it.pop_last(),
    lambda it: it.clear(),
    lambda it: it.compact(),
    lambda it: it.reserve(100),
    lambda it: it.merge([(number, 0) for number in range(30)]),
    lambda it: it.forget(),
    lambda it: it.hold(),
    lambda it: it.set_bound(1),
    lambda it: None,
]


class Blocks(Case):
    def leave(self, block, table, change, error=None):
        """Change a table in a block, and leave it with an error, if one is given."""
        with block(table) as given:
            self.assertIs(given, table)
            change(table)
            marks = table.mark, table.changes
            if error is not None:
                raise error
        return marks

    def test_what_is_restored(self):
        for block, error in [(Attempt, Stop()), (Attempt, Missing("x")), (Trial, Stop()), (Trial, BadKey("x")),
                             (Trial, None)]:
            for change in CHANGES:
                table = holes()
                before, marks = state(table), (table.mark, table.changes)
                try:
                    self.leave(block, table, change, error)
                except (Stop, Missing, BadKey) as caught:
                    self.assertIs(caught, error)
                self.assertEqual(state(table), before)
                self.assertEqual(faults(table.layout()), [])
                self.assertGreaterEqual((table.mark, table.changes), marks)

    def test_the_mark_and_the_changes_stay_as_they_are_just_before(self):
        for block in (Attempt, Trial):
            table, seen = holes(), []
            with self.assertRaises(Stop):
                with block(table):
                    table.put("z", 1), table.drop("z"), table.compact()
                    seen.append((table.mark, table.changes))
                    raise Stop
            self.assertEqual([(table.mark, table.changes)], seen)

    def test_an_attempt_that_is_left_without_an_exception(self):
        for change in CHANGES:
            table, other = holes(), holes()
            change(other)
            marks = self.leave(Attempt, table, change)
            self.assertEqual((state(table), table.bound), (state(other), other.bound))
            self.assertEqual((table.mark, table.changes), marks)

    def test_a_block_that_is_left_by_return_and_break(self):
        table = holes()
        before = state(table)

        def leave():
            with Trial(table):
                table.clear()
                return "told"

        self.assertEqual((leave(), state(table)), ("told", before))
        for _ in range(2):
            with Attempt(table):
                table.put("z", 1)
                break
        self.assertTrue(table.has("z"))

    def test_the_bound_stays_as_the_block_left_it(self):
        for block in (Attempt, Trial):
            table = holes()
            before = state(table)
            with self.assertRaises(Stop):
                with block(table):
                    table.set_bound(1)
                    raise Stop
            # There are more entries than the bound then, until one is added.
            self.assertEqual((state(table), table.bound, table.live), (before, 1, 3))
            table.put("b", "new")
            self.assertEqual(table.live, 3)
            table.put("z", 9)
            self.assertEqual(list(table.each_pair()), [("z", 9)])
            self.assertEqual(table.evicted, (("a", 1), ("b", "new"), ("d", 4), ("e", 5)))

    def test_holds(self):
        for block in (Attempt, Trial):
            for holds in (0, 1, 2):
                for change in (lambda it: it.hold(), lambda it: holds and it.release(),
                               lambda it: (it.hold(), it.hold())):
                    table = Table([("a", 1)])
                    for _ in range(holds):
                        table.hold()
                    with self.assertRaises(Stop):
                        self.leave(block, table, change, Stop())
                    for _ in range(holds):
                        table.release()
                    self.refused(NotHeld, table.release)

    def test_a_table_that_is_held_when_the_block_ends_is_restored_too(self):
        table = Table([("a", 1)])
        with Trial(table):
            table.put("b", 2)
            table.hold()
        self.assertEqual((list(table.each_pair()), table.is_held), ([("a", 1)], False))
        table.hold()
        with Trial(table):
            table.release()
            table.clear()
        self.assertEqual((list(table.each_pair()), table.is_held), ([("a", 1)], True))

    def test_restoring_asks_nothing(self):
        trace = Trace()
        table = Table([(TracedKey(label, 5, trace), 0) for label in "abc"])
        start = len(trace.events())
        with Trial(table):
            table.clear()
        with self.assertRaises(Stop):
            with Attempt(table):
                table.reserve(100)
                raise Stop
        self.assertEqual((trace.events()[start:], table.live), ([], 3))

    def test_later_changes_leave_what_was_saved_alone(self):
        table = holes()
        trial = Trial(table)
        with trial:
            table.clear()
        table.put("z", 1)
        before = state(table)
        with trial:
            table.drop("z")
        self.assertEqual(state(table), before)

    def test_an_unchanged_table_has_the_very_values(self):
        value = []
        table = Table([("a", value)])
        with Trial(table):
            table.put("a", 2)
        self.assertIs(table.fetch("a"), value)

    def test_cursors_from_before_a_block(self):
        table = Table([("a", 1), ("b", 2)])
        cursor, other = Cursor(table), Cursor(table)
        cursor.step()
        with Trial(table):
            table.put("a", 5)
            table.compact()
        self.assertEqual((cursor.current(), cursor.step()), (("a", 1), ("b", 2)))
        with Trial(table):
            table.put("c", 3)
            self.assertEqual(self.refused(ChangedSize, cursor.step), 2)
        # The changes do not go back, but live is the noted number again.
        self.refused(ChangedKeys, other.step)
        other.restart()
        self.assertEqual(other.step(), ("a", 1))


class Nested(Case):
    def test_within_each_other(self):
        table = holes()
        start = state(table)
        with self.assertRaises(Stop):
            with Attempt(table):
                table.put("x", 1)
                middle = state(table)
                with Trial(table):
                    table.clear()
                    with Attempt(table):
                        table.put("y", 2)
                    self.assertEqual(list(table.each_key()), ["y"])
                self.assertEqual(state(table), middle)
                raise Stop
        self.assertEqual(state(table), start)

    def test_an_inner_attempt_that_fails_in_one_that_does_not(self):
        table = Table([("a", 1)])
        with Attempt(table):
            table.put("b", 2)
            with self.assertRaises(Stop):
                with Attempt(table):
                    table.clear()
                    raise Stop
            table.put("c", 3)
        self.assertEqual((list(table.each_key()), table.mark), (["a", "b", "c"], 4))

    def test_an_object_within_its_own_block(self):
        for block in (Trial, Holding, Attempt):
            table = Table([("a", 1)])
            made = block(table)
            with made:
                if block is Holding:
                    table.put("a", 2)
                else:
                    table.put("b", 2)
                before = state(table)
                with made:
                    table.put("a", 3)
                self.assertEqual(state(table)[2], before[2])
                if block is Trial:
                    self.assertEqual(state(table), before)
            self.assertEqual(table.is_held, False)
            self.assertEqual(list(table.each_pair()),
                             {Trial: [("a", 1)], Holding: [("a", 3)], Attempt: [("a", 3), ("b", 2)]}[block])

    def test_an_attempt_within_its_own_block_that_fails_later(self):
        table = Table([("a", 1)])
        made = Attempt(table)
        with self.assertRaises(Stop):
            with made:
                table.put("b", 2)
                with made:
                    table.put("c", 3)
                raise Stop
        self.assertEqual(list(table.each_key()), ["a"])

    def test_two_tables(self):
        one, other = Table([("a", 1)]), Table([("a", 1)])
        with Trial(one), Attempt(other):
            one.clear(), other.clear()
        self.assertEqual((one.live, other.live), (1, 0))


class Holdings(Case):
    def test_the_table_is_held_in_the_block(self):
        table = Table([("a", 1)])
        with Holding(table) as given:
            self.assertIs(given, table)
            self.assertIs(table.is_held, True)
            self.unchanged(table, Locked, table.put, "b", 2)
            table.put("a", 2)
        self.assertEqual((table.is_held, table.get("a"), table.mark), (False, 2, 1))

    def test_as_many_holds_as_before_in_any_case(self):
        for holds in (0, 1, 2):
            for change in (lambda it: None, lambda it: it.hold(), lambda it: it.release(),
                           lambda it: (it.hold(), it.hold(), it.hold()),
                           lambda it: [it.release() for _ in range(holds)]):
                for error in (None, Stop()):
                    table = Table()
                    for _ in range(holds):
                        table.hold()
                    try:
                        with Holding(table):
                            change(table)
                            if error:
                                raise error
                    except Stop as caught:
                        self.assertIs(caught, error)
                    for _ in range(holds):
                        table.release()
                    self.refused(NotHeld, table.release)

    def test_nothing_is_restored(self):
        table = JournaledTable([("a", 1)])
        with self.assertRaises(Stop):
            with Holding(table):
                table.put("a", 2)
                table.release()
                table.put("b", 3)
                raise Stop
        self.assertEqual((list(table.each_pair()), table.is_held, len(table.records)), ([("a", 2), ("b", 3)], False, 3))

    def test_within_an_attempt(self):
        table = Table([("a", 1)])
        with self.assertRaises(Locked):
            with Attempt(table):
                table.put("a", 2)
                with Holding(table):
                    table.drop("a")
        self.assertEqual((list(table.each_pair()), table.is_held), ([("a", 1)], False))


class RunAll(Case):
    def test_all_steps(self):
        table = Table([("a", 1), ("b", 2)])
        self.assertEqual(run_all(table, ("drop", "a"), ("put", "c", 3), ("compact",)), [(1, 3), (2, 4), (2, 5)])
        self.assertEqual((list(table.each_key()), table.mark), (["b", "c"], 5))
        self.assertEqual((run_all(table), run_all(table=table)), ([], []))

    def test_the_examples_of_the_document(self):
        table = Table([("a", 1), ("b", 2)])
        self.assertEqual(try_all(table, ("drop", "a"), ("put", "c", 3)), [(1, 3), (2, 4)])
        self.assertEqual((list(table.each_pair()), table.mark, table.changes), ([("a", 1), ("b", 2)], 4, 4))
        self.assertEqual(self.refused(Missing, run_all, table, ("put", "b", 5), ("drop", "x")), "x")
        self.assertEqual((table.get("b"), table.mark), (2, 4))
        self.assertEqual(run_held(table, ("put", "b", 7)), [(2, 4)])
        self.assertEqual(table.get("b"), 7)

    def test_a_step_that_raises_in_the_middle(self):
        for call in (run_all, try_all):
            for error, step in [(Missing, ("drop", "x")), (BadKey, ("put", True, 1)),
                                (MatchFault, ("put", FailingKey("f", 661, 0, 1), 1))]:
                table = holes()
                before, mark = state(table), table.mark
                self.refused(error, call, table, ("put", "y", 1), ("drop", "b"), step, ("clear",))
                # A rebuild, an addition and a removal have counted.
                self.assertEqual((state(table), table.mark), (before, mark + 3))

    def test_errors_that_are_not_of_this_package(self):
        def fail():
            raise Stop

        for call in (run_all, try_all, run_held):
            table = Table([(5, 1)])
            before = state(table)
            with self.assertRaises(Stop):
                call(table, ("put", 5, 2), ("drop", Own(5, True, fail)))
            if call is run_held:
                before[1][0], before = (5, 2), state(table)
            self.assertEqual(state(table), before)
            self.assertIs(table.is_held, False)

    def test_no_steps(self):
        for call in (run_all, try_all, run_held):
            table = holes()
            before = look(table), state(table)
            for thing in NO_STEPS:
                self.assertEqual(self.refused(BadStep, call, table, ("clear",), ("drop", "x"), thing, None), 2)
                self.assertEqual(self.refused(BadStep, call, table, thing), 0)
            self.assertEqual((look(table), state(table)), before)

    def test_try_all(self):
        table = RecentTable([("a", 1), ("b", 2)], bound=2)
        before, mark = state(table), table.mark
        self.assertEqual(try_all(table, ("put", "c", 3), ("clear",)), [(2, mark + 2), (0, mark + 3)])
        self.assertEqual((state(table), table.mark, table.changes), (before, mark + 3, 5))
        self.assertEqual(try_all(table), [])

    def test_run_held(self):
        table = Table([("a", 1)])
        self.assertEqual(run_held(table, ("put", "a", 2), ("compact",), ("shrink",)), [(1, 1)] * 3)
        self.refused(Locked, run_held, table, ("put", "a", 3), ("put", "b", 4), ("put", "a", 5))
        self.assertEqual((list(table.each_pair()), table.is_held), ([("a", 3)], False))
        table.hold()
        self.assertEqual((run_held(table, ("put", "a", 6)), table.is_held), ([(1, 1)], True))

    def test_keys_that_change_the_table_in_the_middle_of_a_step(self):
        table = BoundedTable([("a", 1), ("b", 2)], bound=5)
        table.put(MeddlingKey("m", 5, table, (("drop", "a"), ("put", "z", 3)) * 2), 4)
        before = state(table)
        self.refused(Missing, run_all, table, ("put", 5, 0), ("drop", "x"))
        self.assertEqual(state(table), before)
        # The key's steps are used up, for a key is no part of the table.
        self.assertEqual(try_all(table, ("put", 13, 0)), [(4, table.mark)])
        self.assertEqual(state(table), before)

    def test_a_step_whose_code_changes_the_table(self):
        table = Table([("a", 1)])
        key = MeddlingKey("m", 5, table, (), (("put", "z", 1), ("drop", "a")))
        before = state(table)
        self.assertEqual(try_all(table, ("put", key, 0), ("put", key, 1)), [(3, 3), (2, 4)])
        self.assertEqual(state(table), before)

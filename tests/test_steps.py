"""Points 7 and 66, and the interface, "entryhall/steps.py"."""

from entryhall.errors import (
    BadCode,
    BadKey,
    BadSize,
    BadStep,
    CodeFault,
    Locked,
    MatchFault,
    Missing,
    NotHeld,
    TooLarge,
    Unsettled,
)
from entryhall.family import BoundedTable, JournaledTable
from entryhall.steps import is_step, outcomes, perform, run_steps
from entryhall.table import Table
from entryhall.unruly import FailingKey, Key, Trace, TracedKey
from tests.helpers import Case, look
from tests.test_lookups import Own, meddled

STEPS = [("put", "a", 1), ("put", None, None), ("put", True, []), ("put", [], {}), ("drop", "a"), ("drop", 1.5),
         ("drop", Key("k", 1)), ("clear",), ("compact",), ("shrink",), ("reserve", 5), ("reserve", -1),
         ("reserve", "x")]

NO_STEPS = [None, True, 5, "clear", "", b"clear", (), [], ["clear"], {"clear": 1}, ("put",), ("put", 1),
            ("put", 1, 2, 3), ("drop",), ("drop", 1, 2), ("clear", 1), ("compact", None), ("shrink", ()), ("reserve",),
            ("reserve", 1, 2), ("take", 1), ("hold",), ("release",), ("get", 1), ("merge",), ("pop_last",),
            ("Put", 1, 2), ("",), (b"clear",), (None,), (1, 2, 3), (("clear",),), ([],), ({},), object(), Table()]


class Small(Table):
    """A table with room for two entries."""

    MAX_LIVE = 2


class IsStep(Case):
    def test_steps(self):
        for step in STEPS:
            self.assertIs(is_step(step), True)
        self.assertIs(is_step(thing=("clear",)), True)

    def test_no_steps(self):
        for thing in NO_STEPS:
            self.assertIs(is_step(thing), False)


class Perform(Case):
    def test_each_kind(self):
        value, key = [], Key("k", 5)
        table = Table()
        for step in [("put", "a", value), ("put", key, 2), ("put", "b", 3), ("drop", "b")]:
            self.assertIsNone(perform(table, step))
        self.assertEqual(list(table.each_pair()), [("a", value), (key, 2)])
        self.assertIs(table.get("a"), value)
        perform(table, ("compact",))
        self.assertEqual((table.filled, table.mark), (2, 5))
        perform(table, ("reserve", 50))
        self.assertEqual(table.size, 128)
        perform(step=("shrink",), table=table)
        self.assertEqual((table.size, table.mark), (8, 7))
        perform(table, ("clear",))
        self.assertEqual((table.live, table.mark, table.changes), (0, 8, 5))

    def test_as_the_methods_of_a_table(self):
        one, other = Table(), Table()
        for step in STEPS[:2] + STEPS[4:5] + STEPS[7:11]:
            perform(one, step)
            getattr(other, step[0])(*step[1:])
            self.assertEqual(look(one), look(other))

    def test_what_is_no_step(self):
        table = Table([("a", 1)])
        for thing in NO_STEPS:
            self.assertEqual(self.unchanged(table, BadStep, perform, table, thing), 0)

    def test_what_the_methods_raise(self):
        table = Table([("a", 1)])
        self.assertEqual(self.unchanged(table, Missing, perform, table, ("drop", "x")), "x")
        self.unchanged(table, BadKey, perform, table, ("put", True, 1))
        self.unchanged(table, BadSize, perform, table, ("reserve", 601))
        self.assertEqual(self.unchanged(table, CodeFault, perform, table, ("drop", FailingKey("f", 1, 1))), "f")
        table.hold()
        self.unchanged(table, Locked, perform, table, ("clear",))

    def test_tables_of_other_classes(self):
        table = BoundedTable(bound=1)
        perform(table, ("put", "a", 1)), perform(table, ("put", "b", 2))
        self.assertEqual(table.evicted, (("a", 1),))


class RunSteps(Case):
    def test_live_and_mark_after_each_step(self):
        table = Table()
        told = run_steps(table, ("put", 1, "a"), ("put", 2, "b"), ("put", 1, "c"), ("drop", 2), ("compact",),
                         ("compact",), ("reserve", 20), ("shrink",), ("clear",))
        self.assertEqual(told, [(1, 1), (2, 2), (2, 2), (1, 3), (1, 4), (1, 4), (1, 5), (1, 6), (0, 7)])
        self.assertEqual(table.layout(), (8, (-1,) * 8, (), 7))

    def test_no_steps_at_all(self):
        table = Table([("a", 1)])
        before = look(table)
        self.assertEqual((run_steps(table), outcomes(table), run_steps(table=table)), ([], [], []))
        run_steps(table).append(1)
        self.assertEqual((run_steps(table), look(table)), ([], before))

    def test_the_index_of_the_first_that_is_no_step(self):
        table = Table([("a", 1)])
        for thing in NO_STEPS:
            for call in (run_steps, outcomes):
                self.assertEqual(self.unchanged(table, BadStep, call, table, thing), 0)
                self.assertEqual(self.unchanged(table, BadStep, call, table, ("clear",), ("drop", "x"), thing, None), 2)

    def test_no_key_is_asked_before(self):
        trace, table = Trace(), Table()
        for call in (run_steps, outcomes):
            self.refused(BadStep, call, table, ("put", TracedKey("t", 1, trace), 1), ("drop",))
        self.assertEqual(trace.events(), [])

    def test_a_step_that_raises(self):
        table = Table([("a", 1)])
        self.assertEqual(self.refused(Missing, run_steps, table, ("put", "b", 2), ("drop", "x"), ("clear",)), "x")
        self.assertEqual((list(table.each_pair()), table.mark), ([("a", 1), ("b", 2)], 2))

    def test_errors_that_are_not_of_this_package(self):
        def fail():
            raise ZeroDivisionError

        for call in (run_steps, outcomes):
            table = Table([(5, 1)])
            with self.assertRaises(ZeroDivisionError):
                call(table, ("put", "b", 2), ("drop", Own(5, True, fail)), ("clear",))
            self.assertEqual(list(table.each_pair()), [(5, 1), ("b", 2)])


class Outcomes(Case):
    def test_each_word(self):
        table = Small([("a", 1), ("b", 2)])
        told = outcomes(table, ("put", True, 1), ("put", Own(-1, True), 1), ("drop", "x"), ("reserve", 601),
                        ("put", "c", 3), ("put", FailingKey("f", 1, 1), 1), ("put", FailingKey("g", 658, 0, 1), 1),
                        ("put", "a", 9))
        self.assertEqual(told, ["key", "key", "missing", "size", "large", "fault", "fault", (2, 2)])
        self.assertEqual(list(table.each_pair()), [("a", 9), ("b", 2)])
        table.hold()
        told = outcomes(table, ("put", "c", 3), ("drop", "a"), ("clear",), ("compact",), ("put", "a", 5),
                        ("reserve", True), ("reserve", 100), ("drop", "x"), ("shrink",))
        self.assertEqual(told, ["locked", "locked", "locked", (2, 2), (2, 2), "size", "locked", "missing", (2, 2)])

    def test_unsettled(self):
        table = meddled(40)
        told = outcomes(table, ("put", 0, 1), ("put", 0, 1), ("put", "z", 1))
        # 41 additions with 3 rebuilds, twice 17 removals, and 1 addition.
        self.assertEqual(told, ["fault", "fault", (8, 79)])

    def test_steps_behind_one_that_is_left_out(self):
        table = JournaledTable()
        told = outcomes(table, ("put", "a", 1), ("drop", "x"), ("put", "b", 2), ("put", 1.5, 2), ("drop", "a"))
        self.assertEqual(told, [(1, 1), "missing", (2, 2), "key", (1, 3)])
        self.assertEqual([record[0] for record in table.records], ["added", "added", "removed"])

    def test_errors_that_a_key_raises(self):
        words = [(BadKey("x"), "key"), (BadCode("x"), "key"), (BadSize("x"), "size"), (Missing("x"), "missing"),
                 (Locked("x"), "locked"), (TooLarge(1), "large"), (CodeFault("x"), "fault"), (MatchFault("x"), "fault"),
                 (Unsettled(16), "fault")]
        for error, word in words:
            self.assertEqual(outcomes(Table([(5, 1)]), ("drop", Own(5, True, self.failing(error)))), [word])
        # The document has no word for other errors of this package.
        with self.assertRaises(NotHeld):
            outcomes(Table([(5, 1)]), ("drop", Own(5, True, self.failing(NotHeld("x")))))

    def failing(self, error):
        def fail():
            raise error

        return fail

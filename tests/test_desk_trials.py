"""Trials of desks: in whatever way they end, the desk is as it was."""

from fifteenforms.desks import Desk
from fifteenforms.errors import InvalidIndex, NothingToUndo, NotSure
from fifteenforms.forms import Form
from tests.helping import Refusing

PAIR = Form.squares((1, 1))


class Stop(Exception):
    pass


class Trials(Refusing):
    def setUp(self):
        self.desk = Desk(PAIR)
        self.desk.put(0, 0, 2)
        self.desk.grow((1, 0))
        self.before = (self.desk.form, self.desk.past)

    def stands(self):
        """Asks that the desk is as it was at first, with all that can be taken back."""
        self.assertIs(self.desk.form, self.before[0])
        self.assertEqual(self.desk.past, self.before[1])
        self.assertEqual(self.desk.changes, 2)

    def taken_back(self):
        """Takes back all changes, and asks what comes so."""
        self.stands()
        self.desk.undo()
        self.assertEqual(self.desk.form.table, ((2, 0), (0, 1)))
        self.desk.undo()
        self.assertIs(self.desk.form, PAIR)
        self.refused_bare(NothingToUndo, self.desk.undo)


class TestTrial(Trials):
    def test_at_the_end_of_the_rows(self):
        with self.desk.trial() as desk:
            self.assertIs(desk, self.desk)
            self.stands()
            desk.put(1, 1, 9)
            desk.leave(0)
            self.assertEqual((desk.form.table, desk.changes), (((9, 0), (0, 5)), 4))
        self.taken_back()

    def test_by_an_error_of_the_desk(self):
        for error, call, passed in (
            (NotSure, self.desk.put, (0, 0, 0)), (InvalidIndex, self.desk.leave, (5,)),
        ):
            with self.assertRaises(error) as caught:
                with self.desk.trial():
                    self.desk.put(1, 1, 9)
                    call(*passed)
            self.assertIs(type(caught.exception), error)
            self.stands()
        self.taken_back()

    def test_by_another_exception(self):
        for error in (Stop(), KeyboardInterrupt(), GeneratorExit(), StopIteration(), ValueError(1), SystemExit(3)):
            with self.assertRaises(type(error)) as caught:
                with self.desk.trial() as desk:
                    desk.leave(0)
                    raise error
            self.assertIs(caught.exception, error)
            self.stands()
        self.taken_back()

    def test_by_a_return(self):
        def left():
            with self.desk.trial() as desk:
                desk.leave(0)
                return desk.form.places

        self.assertEqual(left(), 2)
        self.taken_back()

    def test_by_break_and_continue(self):
        for word in ("break", "continue"):
            for _ in range(3):
                with self.desk.trial() as desk:
                    desk.leave(0)
                    if word == "break":
                        break
                    continue
            self.stands()
        self.taken_back()

    def test_without_changes(self):
        with self.desk.trial():
            pass
        with self.desk.trial() as desk:
            self.assertEqual(desk.changes, 2)
        self.taken_back()

    def test_changes_that_were_done_before_are_taken_back_within(self):
        with self.desk.trial() as desk:
            desk.undo()
            desk.undo()
            self.refused_bare(NothingToUndo, desk.undo)
            self.assertEqual((desk.form.table, desk.changes, desk.past), (PAIR.table, 0, ()))
            desk.put(0, 0, 7)
        self.taken_back()

    def test_entered_several_times(self):
        trial = self.desk.trial()
        for entry in (2, 3, 4):
            with trial as desk:
                self.stands()
                desk.put(1, 1, entry)
            self.stands()
        self.desk.put(1, 1, 5)
        with trial:
            self.desk.leave(0)
            self.assertEqual(self.desk.form.table, ((5, 0), (0, 5)))
        self.assertEqual((self.desk.form.table[1][1], self.desk.changes), (5, 3))
        self.desk.undo()
        self.taken_back()

    def test_entered_within_itself(self):
        trial = self.desk.trial()
        with trial as desk:
            desk.put(1, 1, 5)
            with trial as same:
                self.assertIs(same, desk)
                desk.put(1, 1, 6)
                with self.assertRaises(Stop):
                    with trial:
                        desk.undo()
                        desk.undo()
                        desk.leave(0)
                        raise Stop()
                self.assertEqual((desk.form.table[1][1], desk.changes), (6, 4))
            self.assertEqual((desk.form.table[1][1], desk.changes), (5, 3))
            with trial:
                desk.undo()
                self.stands()
            self.assertEqual((desk.form.table[1][1], desk.changes), (5, 3))
            desk.put(1, 1, 8)
        self.taken_back()

    def test_several_trials_within_one_another(self):
        one, two = self.desk.trial(), self.desk.trial()
        with one:
            self.desk.put(1, 1, 5)
            with two:
                self.desk.leave(2)
                with one:
                    self.desk.put(0, 0, 8)
                    self.desk.leave(1)
                self.assertEqual(self.desk.form.table, ((2, 0), (0, 5)))
            self.assertEqual(self.desk.form.table[1][1], 5)
        self.taken_back()

    def test_a_trial_that_is_not_entered_does_nothing(self):
        trial = self.desk.trial()
        self.stands()
        self.desk.put(1, 1, 5)
        self.assertTrue(trial)
        self.assertIs(trial == trial, True)
        self.assertIs(trial == self.desk.trial(), False)
        self.assertIs(trial != self.desk.trial(), True)
        self.assertEqual(self.desk.changes, 3)

    def test_trials_of_two_desks(self):
        other = Desk(PAIR)
        with self.desk.trial(), other.trial() as held:
            self.assertIs(held, other)
            self.desk.undo()
            other.put(0, 0, 5)
        self.assertEqual((other.form, other.changes), (PAIR, 0))
        self.taken_back()

    def test_what_was_read_within_stays(self):
        with self.desk.trial() as desk:
            desk.leave(2)
            form, past = desk.form, desk.past
        self.assertEqual((form.table, len(past)), (((2, 0), (0, 1)), 3))
        self.taken_back()


class TestTried(Trials):
    def test_what_is_returned(self):
        def action(desk):
            self.assertIs(desk, self.desk)
            self.stands()
            desk.leave(0)
            desk.undo()
            desk.undo()
            return told

        for told in (None, 5, [1, 2], self.desk, ValueError(3)):
            self.assertIs(self.desk.tried(action), told)
            self.stands()
            self.assertIs(self.desk.tried(action=action), told)
            self.stands()
        self.taken_back()

    def test_what_is_raised(self):
        def action(desk):
            desk.leave(0)
            raise error

        for error in (Stop(), KeyboardInterrupt(), NotSure(), ValueError(2)):
            with self.assertRaises(type(error)) as caught:
                self.desk.tried(action)
            self.assertIs(caught.exception, error)
            self.stands()
        self.refused_bare(NotSure, self.desk.tried, lambda desk: desk.put(0, 0, 0))
        self.taken_back()

    def test_tried_within_tried(self):
        def inner(desk):
            desk.undo()
            return desk.form.table

        def outer(desk):
            desk.put(1, 1, 9)
            found = desk.tried(inner)
            self.assertEqual((desk.form.table[1][1], desk.changes), (9, 3))
            return found

        self.assertEqual(self.desk.tried(outer), self.before[0].table)
        self.taken_back()

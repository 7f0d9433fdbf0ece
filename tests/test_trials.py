"""Trials of desks and of books: in whatever way they end, all is as it was."""

from fifteenforms.books import Book
from fifteenforms.desks import Desk
from fifteenforms.errors import Broken, InUse, InvalidIndex, InvalidName, NothingToUndo, NotSure, UnknownName
from fifteenforms.forms import Form
from tests.helping import Refusing

PAIR = Form.squares((1, 1))
FOUR = Form.squares((1, 1, 1, 1))


class Stop(Exception):
    pass


class Trials:
    """What is asked of desks and of books alike; each has a keeper with some changes, and the states of it so far."""

    def stands(self):
        """Asks that the keeper is as it was at first."""
        self.assertEqual(self.state(), self.told[-1])
        self.assertEqual(self.keeper.changes, len(self.told) - 1)

    def taken_back(self):
        """Takes back all changes, and asks what comes so."""
        self.stands()
        for state in self.told[-2::-1]:
            self.keeper.undo()
            self.assertEqual(self.state(), state)
        self.refused_bare(NothingToUndo, self.keeper.undo)

    def test_at_the_end_of_the_rows(self):
        with self.keeper.trial() as held:
            self.assertIs(held, self.keeper)
            self.stands()
            self.change(5)
            self.other_change()
            self.assertEqual(self.keeper.changes, len(self.told) + 1)
            self.assertNotEqual(self.state()[:-1], self.told[-1][:-1])
        self.taken_back()

    def test_by_an_error_of_the_keeper(self):
        for error, call, passed in self.refused_ones():
            with self.assertRaises(error) as caught:
                with self.keeper.trial():
                    self.change(6)
                    call(*passed)
            self.assertIs(type(caught.exception), error)
            self.stands()
        self.taken_back()

    def test_by_another_exception(self):
        for error in (Stop(), KeyboardInterrupt(), GeneratorExit(), StopIteration(), ValueError(1), SystemExit(3)):
            with self.assertRaises(type(error)) as caught:
                with self.keeper.trial():
                    self.other_change()
                    raise error
            self.assertIs(caught.exception, error)
            self.stands()
        self.taken_back()

    def test_by_a_return(self):
        def left():
            with self.keeper.trial() as held:
                self.change(5)
                return held.changes

        self.assertEqual(left(), len(self.told))
        self.taken_back()

    def test_by_break_and_continue(self):
        for word in ("break", "continue"):
            for _ in range(3):
                with self.keeper.trial():
                    self.other_change()
                    if word == "break":
                        break
                    continue
            self.stands()
        self.taken_back()

    def test_without_changes(self):
        with self.keeper.trial():
            pass
        with self.keeper.trial():
            self.stands()
        self.taken_back()

    def test_changes_that_were_done_before_are_taken_back_within(self):
        with self.keeper.trial():
            for state in self.told[-2::-1]:
                self.keeper.undo()
                self.assertEqual(self.state(), state)
            self.refused_bare(NothingToUndo, self.keeper.undo)
            self.change(7)
            self.assertEqual(self.keeper.changes, 1)
        self.taken_back()

    def test_entered_several_times(self):
        trial = self.keeper.trial()
        for entry in (2, 3, 4):
            with trial:
                self.stands()
                self.change(entry)
            self.stands()
        self.change(5)
        self.told.append(self.state())
        with trial:
            self.other_change()
            self.change(6)
        self.taken_back()

    def test_entered_within_itself(self):
        trial = self.keeper.trial()
        with trial as held:
            self.change(5)
            five = self.state()
            with trial as same:
                self.assertIs(same, held)
                self.change(6)
                six = self.state()
                with self.assertRaises(Stop):
                    with trial:
                        self.keeper.undo()
                        self.keeper.undo()
                        self.change(7)
                        raise Stop()
                self.assertEqual(self.state(), six)
            self.assertEqual(self.state(), five)
            with trial:
                self.keeper.undo()
                self.stands()
            self.assertEqual(self.state(), five)
            self.change(8)
        self.taken_back()

    def test_several_trials_within_one_another(self):
        one, two = self.keeper.trial(), self.keeper.trial()
        with one:
            self.change(5)
            five = self.state()
            with two:
                self.other_change()
                other = self.state()
                with one:
                    self.keeper.undo()
                    self.change(9)
                self.assertEqual(self.state(), other)
            self.assertEqual(self.state(), five)
        self.taken_back()

    def test_a_trial_that_is_not_entered_does_nothing(self):
        trial = self.keeper.trial()
        self.stands()
        self.change(5)
        self.told.append(self.state())
        self.assertTrue(trial)
        self.assertIs(trial == trial, True)
        self.assertIs(trial == self.keeper.trial(), False)
        self.assertIs(trial != self.keeper.trial(), True)
        self.taken_back()

    def test_trials_of_a_desk_and_of_a_book(self):
        desk, book = Desk(PAIR), Book()
        with desk.trial(), book.trial() as held, self.keeper.trial():
            self.assertIs(held, book)
            desk.put(0, 0, 5)
            book["a"] = PAIR
            self.change(5)
        self.assertEqual((desk.form, desk.changes, book.names, book.changes), (PAIR, 0, (), 0))
        self.taken_back()

    def test_tried_returns_what_is_returned(self):
        def action(held):
            self.assertIs(held, self.keeper)
            self.stands()
            self.other_change()
            held.undo()
            held.undo()
            return told

        for told in (None, 5, [1, 2], self.keeper, ValueError(3)):
            self.assertIs(self.keeper.tried(action), told)
            self.stands()
            self.assertIs(self.keeper.tried(action=action), told)
            self.stands()
        self.taken_back()

    def test_tried_passes_on_what_is_raised(self):
        def action(held):
            self.change(5)
            raise error

        for error in (Stop(), KeyboardInterrupt(), NotSure(), Broken(3), ValueError(2)):
            with self.assertRaises(type(error)) as caught:
                self.keeper.tried(action)
            self.assertIs(caught.exception, error)
            self.stands()
        for error, call, passed in self.refused_ones():
            with self.assertRaises(error):
                self.keeper.tried(lambda held, call=call, passed=passed: call(*passed))
            self.stands()
        self.taken_back()

    def test_tried_within_tried(self):
        def inner(held):
            held.undo()
            return self.state()

        def outer(held):
            self.change(9)
            nine = self.state()
            found = held.tried(inner)
            self.assertEqual(self.state(), nine)
            return found

        self.assertEqual(self.keeper.tried(outer), self.told[-1])
        self.taken_back()


class TestDesks(Trials, Refusing):
    def setUp(self):
        self.keeper = Desk(PAIR)
        self.told = [self.state()]
        self.keeper.put(0, 0, 2)
        self.told.append(self.state())
        self.keeper.grow((1, 0))
        self.told.append(self.state())

    def state(self):
        return (self.keeper.form.table, [form.table for form in self.keeper.past], self.keeper.changes)

    def change(self, entry):
        self.keeper.put(1, 1, entry)

    def other_change(self):
        self.keeper.leave(0)

    def refused_ones(self):
        return (
            (NotSure, self.keeper.put, (0, 0, 0)),
            (InvalidIndex, self.keeper.leave, (5,)),
            (InvalidIndex, self.keeper.put, (None, 0, 0)),
        )

    def test_what_was_read_within_stays(self):
        with self.keeper.trial() as desk:
            desk.leave(2)
            form, past = desk.form, desk.past
        self.assertEqual((form.table, len(past)), (((2, 0), (0, 1)), 3))
        self.taken_back()


class TestBooks(Trials, Refusing):
    def setUp(self):
        self.keeper = Book()
        self.told = [self.state()]
        for deed in (
            ("put", "a", PAIR), ("wish", ("gives", "a", 5)), ("put", "b", FOUR), ("wish", ("misses", "a", 3)),
            ("put", "c", PAIR), ("lift", 1), ("drop", "c"),
        ):
            self.keeper.do_all(deed)
            self.told.append(self.state())

    def state(self):
        book = self.keeper
        return (book.names, [book[name].table for name in book.names], book.wishes, len(book), book.changes)

    def change(self, entry):
        self.keeper["b"] = Form.squares((entry,))

    def other_change(self):
        self.keeper.wish(("alike", "a", "a"))

    def refused_ones(self):
        return (
            (Broken, self.keeper.wish, (("gives", "a", 3),)),
            (InUse, self.keeper.drop, ("a",)),
            (UnknownName, self.keeper.drop, ("none",)),
            (InvalidName, self.keeper.do_all, (("drop", "b"), ("put", "B", PAIR))),
        )

    def test_what_was_read_within_stays(self):
        with self.keeper.trial() as book:
            book["z"] = PAIR
            book.wish(("places", "z", 2))
            names, wishes = book.names, book.wishes
        self.assertEqual(names, ("a", "b", "z"))
        self.assertEqual(wishes, (("gives", "a", 5), ("places", "z", 2)))
        self.taken_back()

    def test_do_all_within_a_trial(self):
        with self.keeper.trial() as book:
            book.do_all(("put", "z", PAIR), ("drop", "b"), ("lift", 0), ("drop", "a"))
            self.assertEqual(book.names, ("z",))
        self.taken_back()

    def test_a_trial_within_do_all(self):
        def watch(book):
            with book.trial():
                book["trial"] = PAIR
                seen.append(book.names)

        seen = []
        self.keeper.do_all(("put", "z", PAIR), ("drop", "z"), watch=watch)
        self.assertEqual(seen, [("a", "b", "trial", "z"), ("a", "b", "trial")])
        self.keeper.undo()
        self.assertEqual(self.keeper.names, ("a", "b", "z"))
        self.keeper.undo()
        self.taken_back()

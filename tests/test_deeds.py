"""Several changes of a book at once: all of them, or none."""

from fifteenforms.books import Book
from fifteenforms.errors import Broken, InUse, InvalidDeeds, InvalidIndex, InvalidName, InvalidWish, NotAForm
from fifteenforms.errors import NothingToUndo, UnknownName
from fifteenforms.forms import Form
from tests.plain import ODD_VALUES
from tests.test_books import Books, made_book, state

PAIR = Form.squares((1, 1))
THREE = Form.squares((1, 1, 1))
FOUR = Form.squares((1, 1, 1, 1))
MISS = Form.squares((1, 2, 5, 5))

ALL_KINDS = (
    ("put", "d", THREE), ("wish", ("misses", "d", 7)), ("lift", 2), ("drop", "c"), ("put", "a", PAIR), ("lift", 0),
)

# Deeds that fail in a book with a, b and c, each with its error.
FAILING = (
    (("put", "A", PAIR), InvalidName, "given", "A"),
    (("put", None, None), InvalidName, "given", None),
    (("put", "e", None), NotAForm, "given", None),
    (("put", "b", MISS), Broken, "index", 1),
    (("put", "a", THREE), Broken, "index", 2),
    (("drop", "nobody"), UnknownName, "given", "nobody"),
    (("drop", "a"), InUse, "index", 0),
    (("wish", "all"), InvalidWish, "given", "all"),
    (("wish", ("gives", "a", 3)), Broken, "index", 4),
    (("lift", 9), InvalidIndex, "given", 9),
    (("lift", True), InvalidIndex, "given", True),
    (("lift", -1), InvalidIndex, "given", -1),
)


class Stop(Exception):
    pass


class TestDoAll(Books):
    def taken_back(self, book, told):
        """Takes back one change after the other, and asks for the states that are told, the last one first."""
        for before in told[::-1]:
            book.undo()
            self.assertEqual(state(book), before)

    def test_none(self):
        book = made_book()
        before = state(book)
        self.assertEqual(book.do_all(), 0)
        self.assertEqual(book.do_all(watch=None), 0)
        self.assertEqual(book.do_all(watch=lambda book: self.fail()), 0)
        self.assertEqual(state(book), before)

    def test_one_of_each_kind(self):
        for deed in ALL_KINDS[:1] + ALL_KINDS[2:3] + (("wish", ("odd", "b")), ("wish", ("alike", "b", "b"))):
            book = made_book()
            before = state(book)
            done = book.do_all(deed)
            self.assertEqual((done, type(done)), (1, int))
            self.assertEqual(book.changes, 8)
            self.taken_back(book, [before])

    def test_several(self):
        book, told = made_book(), []
        one = made_book()
        for deed in ALL_KINDS:
            told.append(state(one))
            one.do_all(deed)
        self.assertEqual(book.do_all(*ALL_KINDS), 6)
        self.assertEqual(state(book), state(one))
        self.assertEqual(book.names, ("a", "b", "d"))
        self.assertEqual(book.wishes, (("all", "b"), ("misses", "a", 3), ("misses", "d", 7)))
        self.taken_back(book, told)
        self.assertEqual(state(book), state(made_book()))

    def test_the_same_as_by_hand(self):
        book, other = Book(), Book()
        book.do_all(("put", "x", FOUR), ("wish", ("all", "x")), ("put", "y", PAIR), ("lift", 0), ("drop", "x"))
        other["x"] = FOUR
        other.wish(("all", "x"))
        other["y"] = PAIR
        other.lift(0)
        other.drop("x")
        self.assertEqual(state(book), state(other))

    def test_what_fails(self):
        for deed, error, attribute, told in FAILING:
            for ahead, behind in (
                ((), ()), ((), ALL_KINDS), ((("put", "z", PAIR),), ()),
                ((("put", "z", PAIR), ("drop", "z")), (deed, deed)),
            ):
                book = made_book()
                self.unchanged(book, error, attribute, told, book.do_all, *ahead, deed, *behind)
                self.unchanged(book, error, attribute, told, book.do_all, *ahead, deed, *behind, watch=lambda book: 5)
                # What was done before can still be taken back.
                book.undo()
                self.assertEqual((book.wishes[-1], book.changes), (("alike", "a", "c"), 6))

    def test_the_first_one_that_fails(self):
        book = made_book()
        self.unchanged(book, InUse, "index", 0, book.do_all, ("lift", 3), ("drop", "a"), ("drop", "nobody"))
        self.unchanged(book, UnknownName, "given", "no", book.do_all, ("lift", 3), ("drop", "no"), ("drop", "a"))
        self.unchanged(book, UnknownName, "given", "d", book.do_all, ("put", "d", PAIR), ("drop", "d"), ("drop", "d"))

    def test_a_deed_that_only_earlier_ones_allow(self):
        book = made_book()
        self.assertEqual(book.do_all(("lift", 2), ("drop", "c")), 2)
        book = made_book()
        self.unchanged(book, InUse, "index", 2, book.do_all, ("drop", "c"), ("lift", 2))
        self.assertEqual(book.do_all(("lift", 1), ("put", "b", MISS), ("wish", ("misses", "b", 15))), 3)

    def test_no_deeds(self):
        wrong = (
            *ODD_VALUES, 5, (), ("put",), ("put", "d"), ("put", "d", PAIR, PAIR), ("drop",), ("drop", "c", "c"),
            ("wish",),
            ("wish", "all", "b"), ("lift",), ("lift", 0, 0), ["put", "d", PAIR], ["drop", "c"], "drop",
            ("undo",), ("undo", 1),
            ("Put", "d", PAIR), ("", "d"), (None, "d"), (b"drop", "c"), (("drop",), "c"), ("drop ", "c"), ("c", "drop"),
            (True, 0), ("trial", 0), ("all", "b"), {"drop": "c"}, (["drop"], "c"),
        )
        good = ("put", "d", PAIR)
        for value in wrong:
            book = made_book()
            for deeds, index in (
                ((value,), 0), ((good, value), 1), ((value, good), 0), ((good, good, value, good, value), 2),
                # Whether a deed can be done is asked only when all have the form of a deed.
                ((("drop", "nobody"), ("lift", -1), value), 2), ((good, value, ("drop", "nobody")), 1),
                ((("put", 5, 5), ("wish", 5), ("drop", []), ("lift", None), value), 4),
            ):
                self.unchanged(book, InvalidDeeds, "index", index, book.do_all, *deeds)
                self.unchanged(book, InvalidDeeds, "index", index, book.do_all, *deeds, watch=self.fail)

    def test_deeds_in_a_tuple_are_no_deed(self):
        book = made_book()
        self.unchanged(book, InvalidDeeds, "index", 0, book.do_all, ALL_KINDS)
        self.unchanged(book, InvalidDeeds, "index", 0, book.do_all, ALL_KINDS[:2])
        self.unchanged(book, InvalidDeeds, "index", 0, book.do_all, list(ALL_KINDS))


class TestWatch(Books):
    def test_it_sees_what_each_deed_leads_to(self):
        book, one, seen, told = made_book(), made_book(), [], []

        def watch(held):
            self.assertIs(held, book)
            seen.append(state(held))

        for deed in ALL_KINDS:
            one.do_all(deed)
            told.append(state(one))
        self.assertEqual(book.do_all(*ALL_KINDS, watch=watch), 6)
        self.assertEqual(seen, told)

    def test_it_sees_nothing_of_what_fails(self):
        for deed, error, _, _ in FAILING:
            book, seen = made_book(), []
            with self.assertRaises(error):
                book.do_all(("lift", 3), ("put", "z", PAIR), ("wish", ("misses", "a", 3)), deed, deed,
                            watch=lambda held, seen=seen: seen.append(held.changes))
            self.assertEqual(seen, [8, 9, 10])
            self.assertEqual(state(book), state(made_book()))

    def test_what_it_returns_changes_nothing(self):
        for value in (None, False, True, 0, 5, "stop", Stop(), Stop, []):
            book = made_book()
            self.assertEqual(book.do_all(*ALL_KINDS, watch=lambda held, value=value: value), 6)
            self.assertEqual(book.changes, 13)

    def test_its_errors(self):
        for error in (Stop(), KeyboardInterrupt(), Broken(7), NothingToUndo(), ValueError(5), GeneratorExit()):
            for last in range(1, 7):
                book, seen = made_book(), []

                def watch(held):
                    seen.append(held.changes)
                    if len(seen) == last:
                        raise error

                before = state(book)
                with self.assertRaises(type(error)) as caught:
                    book.do_all(*ALL_KINDS, watch=watch)
                self.assertIs(caught.exception, error)
                self.assertEqual(seen, list(range(8, 8 + last)))
                self.assertEqual(state(book), before)
                book.undo()
                self.assertEqual(book.changes, 6)

    def test_what_it_reads_stays(self):
        book, seen = made_book(), []
        book.do_all(*ALL_KINDS, watch=lambda held: seen.append((held.names, held.wishes)))
        self.assertEqual([names for names, _ in seen], [
            ("a", "b", "c", "d"), ("a", "b", "c", "d"), ("a", "b", "c", "d"), ("a", "b", "d"), ("a", "b", "d"),
            ("a", "b", "d"),
        ])
        self.assertEqual([len(wishes) for _, wishes in seen], [4, 5, 4, 4, 4, 3])

    def test_the_book_is_as_it_was_behind_errors_within_errors(self):
        book = made_book()

        def inner(held):
            raise Stop()

        def outer(held):
            self.assertRaises(Stop, held.do_all, ("put", "y", PAIR), watch=inner)
            self.assertEqual(held.names, ("a", "b", "c", "x"))

        book.do_all(("put", "x", PAIR), watch=outer)
        self.assertEqual((book.names, book.changes), (("a", "b", "c", "x"), 8))

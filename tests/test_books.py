"""Books: forms under names, what is refused, and what is taken back."""

import random

from fifteenforms.books import Book
from fifteenforms.errors import Broken, InUse, InvalidIndex, InvalidName, NotAForm, NothingToUndo, UnknownName
from fifteenforms.forms import Form
from tests.helping import Refusing
from tests.judging import judged
from tests.plain import ODD_VALUES

PAIR = Form.squares((1, 1))
THREE = Form.squares((1, 1, 1))
FOUR = Form.squares((1, 1, 1, 1))
MISS = Form.squares((1, 2, 5, 5))
SIX = Form(((2, 1), (1, 2)))
FORMS = (PAIR, THREE, FOUR, MISS, SIX, Form(((1, 1), (1, 2))), Form(((5,),)), Form.squares((1,) * 5))

NAMES = ("a", "z", "all", "main", "aaaaaaaa", "abcdefgh", "zzzzzzzz")
NO_NAMES = (
    *ODD_VALUES, "", "A", "Main", "a1", "1", "a b", " a", "a ", "a\n", "\n", "a-b", "a_b", "nine" + "chars", "a" * 9,
    "a" * 100, "`", "{", "@", "[", 1, ("a",), b"a", PAIR,
)


class Books(Refusing):
    def stands(self, book, tables, wishes, changes):
        """Asks what the book has: these tables under these names, these wishes, so many changes."""
        self.assertEqual(book.names, tuple(sorted(tables)))
        self.assertIs(type(book.names), tuple)
        self.assertEqual({name: book[name].table for name in book.names}, tables)
        self.assertEqual((book.wishes, type(book.wishes)), (tuple(wishes), tuple))
        self.assertEqual((book.changes, type(book.changes)), (changes, int))
        self.assertEqual((len(book), bool(book)), (len(tables), len(tables) > 0))
        for name in (*NAMES, "b", "none", *NO_NAMES):
            if type(name) is str and name in tables:
                self.assertIs(name in book, True)
            else:
                self.assertIs(name in book, False)

    def unchanged(self, book, error, attribute, told, call, *passed, **named):
        """Asks that the call is refused with this error, and that the book stays as it was."""
        before = state(book)
        if attribute is None:
            self.refused_bare(error, call, *passed, **named)
        else:
            self.refused(error, attribute, told, call, *passed, **named)
        self.assertEqual(state(book), before)


def state(book):
    return (book.names, [book[name] for name in book.names], book.wishes, len(book), book.changes)


def put(book, name, form):
    book[name] = form


def made_book():
    book = Book()
    book["a"] = PAIR
    book["b"] = FOUR
    book["c"] = Form(((1, 1), (1, 2)))
    for wish in (("gives", "a", 5), ("all", "b"), ("alike", "a", "c"), ("misses", "a", 3)):
        book.wish(wish)
    return book


class TestForms(Books):
    def test_at_first(self):
        book = Book()
        self.stands(book, {}, (), 0)
        self.assertFalse(book)
        self.unchanged(book, NothingToUndo, None, None, book.undo)

    def test_put_and_read(self):
        book, tables = Book(), {}
        for changes, name in enumerate(NAMES):
            form = FORMS[changes % len(FORMS)]
            book[name] = form
            tables[name] = form.table
            self.assertIs(book[name], form)
            self.stands(book, tables, (), changes + 1)
        self.assertEqual(book.names, ("a", "aaaaaaaa", "abcdefgh", "all", "main", "z", "zzzzzzzz"))

    def test_in_the_place_of_another_one(self):
        book = Book()
        book["a"] = PAIR
        book["b"] = THREE
        book["a"] = FOUR
        self.stands(book, {"a": FOUR.table, "b": THREE.table}, (), 3)
        book["a"] = FOUR
        self.stands(book, {"a": FOUR.table, "b": THREE.table}, (), 4)
        book.undo()
        book.undo()
        self.stands(book, {"a": PAIR.table, "b": THREE.table}, (), 2)

    def test_the_same_form_under_several_names(self):
        book = Book()
        for name in NAMES:
            book[name] = SIX
        self.stands(book, {name: SIX.table for name in NAMES}, (), len(NAMES))

    def test_no_names(self):
        book = made_book()
        for value in NO_NAMES:
            self.unchanged(book, InvalidName, "given", value, put, book, value, PAIR)
            self.unchanged(book, InvalidName, "given", value, put, book, value, None)

    def test_no_forms(self):
        book = made_book()
        for value in (*ODD_VALUES, 1, ((1,),), Form, book):
            for name in ("a", "d", "abcdefgh"):
                self.unchanged(book, NotAForm, "given", value, put, book, name, value)

    def test_names_that_are_not_there(self):
        book = made_book()
        for value in (*NO_NAMES, "d", "zz", "abcdefgh", 0, -1, (), (1, [2])):
            self.unchanged(book, UnknownName, "given", value, lambda given: book[given], value)
            self.assertIs(value in book, False)
            self.assertIs(value not in book, True)

    def test_broken_by_another_form(self):
        book = made_book()
        # What is wished of a, in this order: it gives 5, it is alike to c, it misses 3.
        for form, index in (
            (Form(((3,),)), 0), (Form.squares((1, 2)), 0), (THREE, 2), (Form.squares((5, 1)), 2), (FOUR, 2), (SIX, 0),
            (Form.squares((1, 4)), 2),
        ):
            self.unchanged(book, Broken, "index", index, put, book, "a", form)
        for form, index in ((MISS, 1), (PAIR, 1), (THREE, 1)):
            self.unchanged(book, Broken, "index", index, put, book, "b", form)
        for form, index in ((FOUR, 2), (SIX, 2), (Form(((2, 1), (1, 1))), None), (Form(((5, 7), (7, 10))), None)):
            if index is None:
                book["c"] = form
            else:
                self.unchanged(book, Broken, "index", index, put, book, "c", form)
        book["a"] = Form(((10, 7), (7, 5)))
        book["b"] = Form.squares((1, 2, 5, 10))
        self.assertEqual((book["a"].table, book.changes), (((10, 7), (7, 5)), 11))
        # The name and the form are asked ahead of the wishes.
        self.unchanged(book, InvalidName, "given", "A", put, book, "A", MISS)
        self.unchanged(book, NotAForm, "given", None, put, book, "b", None)


class TestDrop(Books):
    def test_drop(self):
        book = Book()
        for name in NAMES:
            book[name] = PAIR
        tables = {name: PAIR.table for name in NAMES}
        for changes, name in enumerate(NAMES[::-1]):
            self.assertIsNone(book.drop(name=name) if changes % 2 else book.drop(name))
            del tables[name]
            self.stands(book, tables, (), len(NAMES) + changes + 1)
        self.assertFalse(book)

    def test_names_that_are_not_there(self):
        for book in (Book(), made_book()):
            for value in (*NO_NAMES, "d", "abcdefgh", 0, ()):
                self.unchanged(book, UnknownName, "given", value, book.drop, value)
                self.unchanged(book, UnknownName, "given", value, book.drop, name=value)

    def test_names_in_use(self):
        book = made_book()
        for name, index in (("a", 0), ("b", 1), ("c", 2)):
            self.unchanged(book, InUse, "index", index, book.drop, name)
        book.lift(0)
        for name, index in (("a", 1), ("b", 0), ("c", 1)):
            self.unchanged(book, InUse, "index", index, book.drop, name=name)
        book.lift(1)
        self.unchanged(book, InUse, "index", 1, book.drop, "a")
        book.drop("c")
        book.lift(1)
        book.drop("a")
        self.unchanged(book, InUse, "index", 0, book.drop, "b")
        self.assertEqual((book.names, book.wishes), (("b",), (("all", "b"),)))

    def test_names_that_are_words(self):
        book = Book()
        book["all"] = FOUR
        book["gives"] = FOUR
        book.wish(("all", "gives"))
        book.wish(("gives", "gives", 4))
        book.drop("all")
        self.unchanged(book, InUse, "index", 0, book.drop, "gives")

    def test_put_again_behind_drop(self):
        book = Book()
        book["a"] = PAIR
        book.drop("a")
        self.assertNotIn("a", book)
        book["a"] = THREE
        self.stands(book, {"a": THREE.table}, (), 3)


class TestLift(Books):
    def test_lift(self):
        book = made_book()
        self.assertIsNone(book.lift(2))
        self.assertEqual(book.wishes, (("gives", "a", 5), ("all", "b"), ("misses", "a", 3)))
        self.assertIsNone(book.lift(index=0))
        self.assertEqual(book.wishes, (("all", "b"), ("misses", "a", 3)))
        book.lift(1)
        book.lift(0)
        self.assertEqual((book.wishes, book.changes), ((), 11))
        book["b"] = MISS
        self.unchanged(book, InvalidIndex, "given", 0, book.lift, 0)

    def test_no_index(self):
        book = made_book()
        for value in (*ODD_VALUES, -1, 4, 5, 10 ** 79, (0,), "0", ("all", "b")):
            self.unchanged(book, InvalidIndex, "given", value, book.lift, value)
            self.unchanged(book, InvalidIndex, "given", value, book.lift, index=value)
        for value in (0, -1, None, False):
            self.unchanged(Book(), InvalidIndex, "given", value, Book().lift, value)


class TestUndo(Books):
    def test_step_by_step(self):
        book = Book()
        told = [state(book)]
        for deed in (
            ("put", "a", PAIR), ("put", "a", PAIR), ("put", "b", FOUR), ("wish", ("all", "b")), ("wish", ("all", "b")),
            ("lift", 0), ("put", "c", SIX), ("wish", ("misses", "c", 1)), ("drop", "a"), ("lift", 0), ("drop", "b"),
        ):
            book.do_all(deed)
            told.append(state(book))
            self.assertEqual(book.changes, len(told) - 1)
        for before in told[-2::-1]:
            self.assertIsNone(book.undo())
            self.assertEqual(state(book), before)
        self.unchanged(book, NothingToUndo, None, None, book.undo)

    def test_changes_behind_an_undo(self):
        book = made_book()
        book.undo()
        book.undo()
        book["a"] = Form.squares((1, 1, 1, 1))
        self.assertEqual(book.wishes, (("gives", "a", 5), ("all", "b")))
        book.undo()
        self.assertEqual((book["a"], book.changes), (PAIR, 5))

    def test_what_was_read_before_stays(self):
        book = made_book()
        names, wishes, form = book.names, book.wishes, book["a"]
        book.lift(3)
        book["d"] = SIX
        book.undo()
        book.undo()
        book.undo()
        self.assertEqual(names, ("a", "b", "c"))
        self.assertEqual(wishes, (("gives", "a", 5), ("all", "b"), ("alike", "a", "c"), ("misses", "a", 3)))
        self.assertIs(form, PAIR)

    def test_two_books_side_by_side(self):
        one, two = Book(), Book()
        one["a"] = PAIR
        two["b"] = PAIR
        two.wish(("gives", "b", 2))
        self.stands(one, {"a": PAIR.table}, (), 1)
        self.stands(two, {"b": PAIR.table}, (("gives", "b", 2),), 2)
        one.undo()
        self.stands(one, {}, (), 0)
        self.assertEqual(len(two), 1)

    def test_books_equal_themselves_alone(self):
        one, two = Book(), Book()
        self.assertIs(one == one, True)
        self.assertIs(one != one, False)
        for other in (two, PAIR, *ODD_VALUES[:-2], 1, (), one.trial()):
            self.assertIs(one == other, False)
            self.assertIs(one != other, True)

    def test_what_is_read_is_not_assigned(self):
        book = made_book()
        for name in ("names", "wishes", "changes"):
            with self.assertRaises(AttributeError):
                setattr(book, name, ())
        self.assertEqual(state(book), state(made_book()))


class TestDrawnChanges(Books):
    """Books under drawn changes, compared with dicts of the test and with its own judgement of the wishes."""

    NAMES = ("a", "b", "cc")
    FORMS = tuple(Form(table) for table in (
        ((1, 0), (0, 1)), ((1, 1), (1, 2)), ((2, 1), (1, 2)), ((1, 0, 0), (0, 1, 0), (0, 0, 1)), ((2, -1), (-1, 2)),
        ((1, 0, 0, 0), (0, 1, 0, 0), (0, 0, 1, 0), (0, 0, 0, 1)), ((1, 0, 0), (0, 1, 0), (0, 0, 2)), ((1,),),
        ((1, 0, 0, 0), (0, 2, 0, 0), (0, 0, 5, 0), (0, 0, 0, 5)), ((1, 0), (0, 2)),
    ))

    def test_drawn_changes(self):
        for seed in range(131, 141):
            chance = random.Random(seed)
            book, tables, wishes, kept = Book(), {}, [], []
            for _ in range(80):
                before = (dict(tables), list(wishes))
                done = self.drawn_change(chance, book, tables, wishes, kept)
                if done:
                    kept.append(before)
                self.stands(book, tables, wishes, len(kept))
                for wish in wishes:
                    self.assertTrue(judged(wish, tables))

    def drawn_change(self, chance, book, tables, wishes, kept):
        """Changes the book or is refused, and changes what is told likewise; returns whether a change was kept."""
        word = chance.choice(("put", "put", "wish", "wish", "wish", "drop", "lift", "undo"))
        name = chance.choice(self.NAMES)
        if word == "put":
            return self.drawn_put(chance, book, name, tables, wishes)
        if word == "wish":
            return self.drawn_wish(chance, book, name, tables, wishes)
        if word == "drop":
            return self.drawn_drop(book, name, tables, wishes)
        if word == "lift":
            return self.drawn_lift(book, chance.randrange(5), wishes)
        if kept:
            book.undo()
            before = kept.pop()
            tables.clear()
            tables.update(before[0])
            wishes[:] = before[1]
        else:
            self.unchanged(book, NothingToUndo, None, None, book.undo)
        return False

    def drawn_put(self, chance, book, name, tables, wishes):
        form = chance.choice(self.FORMS)
        after = {**tables, name: form.table}
        wrong = [index for index, wish in enumerate(wishes) if not judged(wish, after)]
        if wrong:
            self.unchanged(book, Broken, "index", wrong[0], put, book, name, form)
            return False
        book[name] = form
        tables.update(after)
        return True

    def drawn_wish(self, chance, book, name, tables, wishes):
        number = chance.choice((1, 2, 3, 5, 7, 14, 15))
        wish = chance.choice((
            ("all", name), ("odd", name), ("primes", name), ("gives", name, number), ("misses", name, number),
            ("alike", name, chance.choice(self.NAMES)), ("places", name, number),
        ))
        if not judged(wish, tables):
            self.unchanged(book, Broken, "index", len(wishes), book.wish, wish)
            return False
        book.wish(wish)
        wishes.append(wish)
        return True

    def drawn_drop(self, book, name, tables, wishes):
        using = [index for index, wish in enumerate(wishes) if name in wish[1:]]
        if name not in tables:
            self.unchanged(book, UnknownName, "given", name, book.drop, name)
            return False
        if using:
            self.unchanged(book, InUse, "index", using[0], book.drop, name)
            return False
        book.drop(name)
        del tables[name]
        return True

    def drawn_lift(self, book, index, wishes):
        if index >= len(wishes):
            self.unchanged(book, InvalidIndex, "given", index, book.lift, index)
            return False
        book.lift(index)
        del wishes[index]
        return True

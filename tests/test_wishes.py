"""Wishes: each of the seven words, held and not held, by the tests' own judgement, and what is no wish."""

from fifteenforms.books import Book
from fifteenforms.errors import Broken, InvalidWish
from fifteenforms.forms import Form
from tests.judging import judged
from tests.plain import ODD_VALUES
from tests.test_books import Books

TABLES = {
    "one": ((1,),),
    "pair": ((1, 0), (0, 1)),
    "far": ((5, 7), (7, 10)),
    "two": ((1, 0), (0, 2)),
    "six": ((2, 1), (1, 2)),
    "three": ((1, 0, 0), (0, 1, 0), (0, 0, 1)),
    "mixed": ((1, 0, 0), (0, 1, 0), (0, 0, 2)),
    "four": ((1, 0, 0, 0), (0, 1, 0, 0), (0, 0, 1, 0), (0, 0, 0, 1)),
    "miss": ((1, 0, 0, 0), (0, 2, 0, 0), (0, 0, 5, 0), (0, 0, 0, 5)),
    "five": ((1, 0, 0, 0, 0), (0, 2, 0, 0, 0), (0, 0, 3, 0, 0), (0, 0, 0, 4, 0), (0, 0, 0, 0, 5)),
}
NUMBERS = (1, 2, 3, 4, 5, 6, 7, 14, 15, 28, 60)


def all_wishes():
    for name in (*TABLES, "nobody"):
        yield from (("all", name), ("odd", name), ("primes", name))
        for number in NUMBERS:
            yield from (("gives", name, number), ("misses", name, number), ("places", name, number))
        for other in (*TABLES, "nobody"):
            yield ("alike", name, other)


def full_book():
    book = Book()
    for name, table in TABLES.items():
        book[name] = Form(table)
    return book


class TestWishes(Books):
    def test_all_words(self):
        book, held, seen = full_book(), [], set()
        for wish in all_wishes():
            told = judged(wish, TABLES)
            seen.add((wish[0], told))
            if told:
                self.assertIsNone(book.wish(wish))
                held.append(wish)
                self.assertIs(book.wishes[-1], wish)
            else:
                self.unchanged(book, Broken, "index", len(held), book.wish, wish)
        self.assertEqual(book.wishes, tuple(held))
        self.assertEqual(book.changes, len(TABLES) + len(held))
        # Each word was held and not held.
        self.assertEqual(len(seen), 14)

    def test_the_bounds_of_numbers(self):
        book = full_book()
        for wish in (
            ("gives", "four", 1000), ("gives", "one", 1), ("misses", "three", 28), ("misses", "six", 1),
            ("places", "five", 5),
            ("misses", "one", 1000), ("places", "one", 1), ("places", "one", 1000), ("places", "four", 4),
        ):
            book.wish(wish=wish)
        for wish in (("gives", "one", 1000), ("misses", "four", 1000), ("places", "five", 4), ("places", "pair", 1)):
            self.unchanged(book, Broken, "index", 9, book.wish, wish)

    def test_the_same_wish_twice(self):
        book = full_book()
        wish = ("all", "four")
        book.wish(wish)
        book.wish(wish)
        self.assertEqual((book.wishes, book.changes), ((wish, wish), len(TABLES) + 2))
        book.lift(0)
        self.assertEqual(book.wishes, (wish,))

    def test_anything_in_the_places_of_names(self):
        book = full_book()
        book.wish(("all", "four"))
        for value in (*ODD_VALUES, "nobody", "FOUR", "four ", 5, ("four",), ["four"], Form(TABLES["four"]), "a" * 9):
            for wish in (
                ("all", value), ("odd", value), ("primes", value), ("gives", value, 1), ("misses", value, 1),
                ("places", value, 5), ("alike", value, "four"), ("alike", "four", value), ("alike", value, value),
            ):
                self.unchanged(book, Broken, "index", 1, book.wish, wish)

    def test_no_wishes(self):
        book = full_book()
        for value in (
            *ODD_VALUES, 5, (), ("all",), ("odd",), ("primes",), ("gives", "four"), ("misses", "six"),
            ("alike", "four"),
            ("places", "four"), ("all", "four", "four"), ("all", "four", 1), ("odd", "four", None),
            ("primes", "four", "all"), ("gives", "four", 1, 1), ("misses", "six", 1, 1),
            ("alike", "four", "four", "four"),
            ("places", "four", 4, 4), ["all", "four"], ["gives", "four", 1], "all", "all four", ("All", "four"),
            ("all ", "four"), ("", "four"), ("none", "four"), ("unlike", "four", "six"), ("barred", "six", 1),
            ("not all", "three", 7), (None, "four"), (b"all", "four"), (("all",), "four"), (1, "four"),
            (True, "four", 1),
            ("four", "all"), ("four", "gives", 1), {"all": "four"}, (("all", "four"),), (["all"], "four"),
        ):
            self.unchanged(book, InvalidWish, "given", value, book.wish, value)
            self.unchanged(book, InvalidWish, "given", value, book.wish, wish=value)

    def test_numbers_that_are_none(self):
        book = full_book()
        for value in (*ODD_VALUES, 0, -1, 1001, 10 ** 79, (1,), "5"):
            for word in ("gives", "misses", "places"):
                for name in ("four", "six", "nobody", None):
                    wish = (word, name, value)
                    self.unchanged(book, InvalidWish, "given", wish, book.wish, wish)

    def test_words_that_are_none(self):
        book = full_book()
        for value in ODD_VALUES:
            wish = (value, "four")
            self.unchanged(book, InvalidWish, "given", wish, book.wish, wish)
            wish = (value, "four", 5)
            self.unchanged(book, InvalidWish, "given", wish, book.wish, wish)

    def test_wishes_stay_as_they_were_passed(self):
        book = full_book()
        wishes = [("alike", "pair", "far"), ("all", "four"), ("gives", "six", 2)]
        for wish in wishes:
            book.wish(wish)
        for kept, wish in zip(book.wishes, wishes):
            self.assertIs(kept, wish)
        self.assertEqual(wishes, [("alike", "pair", "far"), ("all", "four"), ("gives", "six", 2)])

    def test_each_word_breaks(self):
        for wish, name, table in (
            (("all", "four"), "four", "miss"), (("odd", "mixed"), "mixed", "three"),
            (("primes", "mixed"), "mixed", "three"),
            (("gives", "pair", 5), "pair", "two"), (("misses", "pair", 3), "pair", "two"),
            (("alike", "pair", "far"), "far", "six"), (("alike", "pair", "far"), "pair", "two"),
            (("places", "four", 4), "four", "five"), (("primes", "miss"), "miss", "pair"),
            (("all", "five"), "five", "one"),
        ):
            book = full_book()
            book.wish(("places", "six", 2))
            book.wish(wish)
            with self.assertRaises(Broken) as caught:
                book[name] = Form(TABLES[table])
            self.assertEqual(caught.exception.index, 1)
            self.assertEqual(book[name].table, TABLES[name])
            book.lift(1)
            book[name] = Form(TABLES[table])
            self.assertEqual(book[name].table, TABLES[table])

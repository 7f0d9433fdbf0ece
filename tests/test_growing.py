"""Growing, compared with all last rows that the tests' own determinants allow."""

import random
import unittest
from functools import cache
from itertools import combinations, product
from math import isqrt

from fifteenforms.alike import alike
from fifteenforms.errors import InvalidNumber, NotAForm, TooGreat
from fifteenforms.fifteen import gives_all, least_missed
from fifteenforms.forms import Form
from fifteenforms.growing import grown, tree
from tests.helping import Refusing, far_form
from tests.plain import ODD_VALUES, all_turnings, box_size, drawn_turning, is_sure, leibniz, missed_in_box
from tests.plain import some_tables, turned_by

PAIR = Form.squares((1, 1))
THREE = Form.squares((1, 1, 1))
FOUR = Form.squares((1, 1, 1, 1))
MISS = Form.squares((1, 2, 5, 5))

# The forms in three places that come by growing from nothing, as they are known.
NINE = (
    ((1, 0, 0), (0, 1, 0), (0, 0, 1)),
    ((1, 0, 0), (0, 1, 0), (0, 0, 2)),
    ((1, 0, 0), (0, 1, 0), (0, 0, 3)),
    ((1, 0, 0), (0, 2, 0), (0, 0, 2)),
    ((1, 0, 0), (0, 2, 0), (0, 0, 3)),
    ((1, 0, 0), (0, 2, 0), (0, 0, 4)),
    ((1, 0, 0), (0, 2, 0), (0, 0, 5)),
    ((1, 0, 0), (0, 2, 1), (0, 1, 4)),
    ((1, 0, 0), (0, 2, 1), (0, 1, 5)),
)


def plain_grown(table, last):
    """All tables with one place more that are sure, with `last` as the last entry."""
    found = []
    reaches = [isqrt(last * table[at][at]) for at in range(len(table))]
    for row in product(*(range(-reach, reach + 1) for reach in reaches)):
        rows = tuple(entries + (entry,) for entries, entry in zip(table, row)) + ((*row, last),)
        if is_sure(rows):
            found.append(rows)
    return found


def plainly_alike(table, other):
    return leibniz(table) == leibniz(other) and len(all_turnings(table, other)) > 0


def called_alike(table, other):
    """What the package says of the tables; its own tests ask whether this is right."""
    return alike(made(table), made(other))


@cache
def made(table):
    return Form(table)


class Growing(Refusing):
    def compare(self, table, last, likeness):
        """Asks that just one of all that are alike is told, likeness being asked by the function that is passed."""
        with self.subTest(table=table):
            form = Form(table)
            self.assertEqual(least_missed(form), last)
            found, told = grown(form), plain_grown(table, last)
            self.assertIs(type(found), tuple)
            for other in found:
                self.assertIs(type(other), Form)
                self.assertIn(other.table, told)
                self.assertEqual(other.part(tuple(range(form.places))), form)
                self.assertEqual(other.table[-1][-1], last)
            for one, two in combinations(found, 2):
                self.assertFalse(likeness(one.table, two.table))
            for other in told:
                self.assertEqual(sum(likeness(one.table, other) for one in found), 1, other)
            return found


class TestGrown(Growing):
    def test_one_place(self):
        for entry in range(1, 30):
            last = 2 if entry == 1 else 1
            self.compare(((entry,),), last, plainly_alike)

    def test_two_places(self):
        for table, last in (
            (((1, 0), (0, 1)), 3), (((1, 0), (0, 2)), 5), (((1, 1), (1, 2)), 3), (((2, 1), (1, 2)), 1),
            (((1, 0), (0, 3)), 2), (((2, 0), (0, 3)), 1), (((5, 7), (7, 10)), 3), (((1, 0), (0, 7)), 2),
            (((4, 1), (1, 5)), 1), (((3, -1), (-1, 3)), 1),
        ):
            self.compare(table, last, plainly_alike)

    def test_two_places_drawn(self):
        chance = random.Random(61)
        for table in some_tables(chance, 2, 8, 3, 12):
            last = missed_in_box(table, 15)[0]
            if all(box_size(other, 15) < 8000 for other in plain_grown(table, last)):
                self.compare(table, last, plainly_alike)

    def test_three_places(self):
        for table, last in zip(NINE, (7, 14, 6, 7, 10, 14, 10, 7, 7)):
            self.compare(table, last, called_alike)
        chance = random.Random(62)
        for table in some_tables(chance, 3, 4, 2, 12):
            self.compare(table, missed_in_box(table, 15)[0], called_alike)

    def test_great_entries(self):
        chance = random.Random(63)
        for form, last in ((Form(((1000,),)), 1), (Form(((997,),)), 1)):
            found = self.compare(form.table, last, called_alike)
            # 1 with what is left: the entry less a square below it.
            self.assertEqual(len(found), 32)
        for form in (PAIR, Form.squares((1, 2)), Form(((2, 1), (1, 2))), THREE, Form.squares((2, 3, 5))):
            far = far_form(chance, form, 40)
            near, others = grown(form), grown(far)
            self.assertEqual(len(near), len(others))
            for one in others:
                self.assertEqual(one.part(tuple(range(form.places))), far)
                self.assertEqual(sum(alike(one, two) for two in near), 1)
        self.assertEqual(len(grown(Form.squares((200, 300)))), len(grown(Form.squares((300, 200)))))

    def test_great_forms_of_three_places(self):
        found = grown(Form(((50, 3, 2), (3, 61, 5), (2, 5, 72))))
        self.assertEqual({form.table[3][3] for form in found}, {1})
        self.assertEqual(len({form.table for form in found}), len(found))

    def test_known_numbers_of_forms(self):
        for factors, many in (((1,), 2), ((1, 1), 3), ((1, 2), 8)):
            self.assertEqual(len(grown(form=Form.squares(factors))), many)

    def test_the_example_of_the_definitions(self):
        told = Form(((1, 0, 1), (0, 2, 1), (1, 1, 5)))
        self.assertEqual(sum(alike(form, told) for form in grown(Form.squares((1, 2)))), 1)

    def test_forms_that_give_all_numbers_do_not_grow(self):
        for form in (
            FOUR, Form.squares((1, 2, 5, 10)), Form.squares((1, 1, 1, 7)), Form.squares((1, 2, 3, 4, 5)),
            Form.squares((1, 1, 1, 1, 1000)), Form.squares((1, 2, 5, 5, 15)), far_form(random.Random(64), FOUR, 60),
        ):
            self.assertIsNone(grown(form))
            self.assertIsNone(grown(form=form))

    def test_four_and_five_places_are_too_great(self):
        for form, places in (
            (MISS, 4), (Form.squares((2, 2, 2, 2)), 4), (Form.squares((1000,) * 4), 4), (Form.squares((1, 1, 1, 8)), 4),
            (Form.squares((1, 2, 5, 5, 16)), 5), (Form.squares((3, 3, 3, 3, 3)), 5), (Form.squares((1000,) * 5), 5),
        ):
            self.refused(TooGreat, "given", places, grown, form)
            self.refused(TooGreat, "given", places, grown, form=form)


class TestTree(unittest.TestCase):
    def compare(self, found, tables):
        self.assertIs(type(found), tuple)
        self.assertEqual(len(found), len(tables))
        for table in tables:
            self.assertEqual(sum(alike(Form(table), form) for form in found), 1)

    def test_known_trees(self):
        self.assertEqual(tree(1), (Form(((1,),)),))
        self.compare(tree(places=1), (((1,),),))
        self.compare(tree(2), (((1, 0), (0, 1)), ((1, 0), (0, 2))))
        self.compare(tree(3), NINE)
        self.compare(tree(places=3), NINE)

    def test_trees_by_plain_growing(self):
        tables = [((1,),)]
        for places in (1, 2, 3):
            if places > 1:
                tables = [other for table in tables for other in plain_grown(table, missed_in_box(table, 15)[0])]
            found = tree(places)
            for form in found:
                self.assertEqual(form.places, places)
                self.assertTrue(any(plainly_alike(form.table, table) for table in tables))
            for table in tables:
                self.assertEqual(sum(plainly_alike(form.table, table) for form in found), 1)

    def test_no_two_are_alike(self):
        for places in (1, 2, 3):
            for one, two in combinations(tree(places), 2):
                self.assertFalse(alike(one, two))
                self.assertFalse(plainly_alike(one.table, two.table))

    def test_what_comes_from_the_tree_in_four_places(self):
        """There are 207 forms in four places, and 201 of them give all numbers; four of the others miss 15 alone."""
        kept = []
        for form in tree(3):
            for other in grown(form):
                if not any(other.determinant == one.determinant and alike(other, one) for one in kept):
                    kept.append(other)
        self.assertEqual(len(kept), 207)
        self.assertEqual(sum(gives_all(form) for form in kept), 201)
        self.assertEqual(sorted(least_missed(form) for form in kept if not gives_all(form)), [10, 10, 15, 15, 15, 15])


class TestWrongArguments(Refusing):
    def test_no_form(self):
        for value in (*ODD_VALUES, 1, ((1,),), "1", Form):
            self.refused(NotAForm, "given", value, grown, value)
            self.refused(NotAForm, "given", value, grown, form=value)

    def test_not_one_two_or_three_places(self):
        for value in (*ODD_VALUES, 0, 4, 5, -1, -3, 1000, 10 ** 79, (2,), PAIR):
            self.refused(InvalidNumber, "given", value, tree, value)
            self.refused(InvalidNumber, "given", value, tree, places=value)

    def test_nothing_is_changed_and_equal_calls_return_equal_results(self):
        table = turned_by(((1, 0), (0, 2)), drawn_turning(random.Random(65), 2, 2))
        form = Form(table)
        self.assertEqual(grown(form), grown(Form(table)))
        self.assertEqual(grown(form), grown(form))
        self.assertEqual(tree(3), tree(3))
        self.assertIs(form.table, table)

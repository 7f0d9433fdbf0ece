"""Desks, compared with tables that the tests change themselves."""

import random

from fifteenforms.alike import alike
from fifteenforms.desks import Desk
from fifteenforms.errors import InvalidIndex, InvalidNumber, InvalidPoint, InvalidTurning, NotAForm, NothingToUndo
from fifteenforms.errors import NotSure, TooGreat
from fifteenforms.fifteen import gives_all, least_missed
from fifteenforms.forms import Form
from fifteenforms.growing import grown
from tests.helping import Refusing, unit
from tests.plain import ODD_VALUES, changed, drawn_turning, is_sure, missed_in_box, some_tables, turned_by, without

PAIR = Form.squares((1, 1))
THREE = Form.squares((1, 1, 1))
FOUR = Form.squares((1, 1, 1, 1))
MISS = Form.squares((1, 2, 5, 5))
FIVE = Form.squares((3, 3, 3, 3, 3))
SIX = Form(((2, 1), (1, 2)))
ONE = Form(((1,),))


class Desks(Refusing):
    def stands(self, desk, tables):
        """Asks that the desk's form has the last one of these tables, and that the others are its past."""
        self.assertIs(type(desk.form), Form)
        self.assertEqual(desk.form.table, tables[-1])
        self.assertIs(type(desk.past), tuple)
        self.assertEqual([form.table for form in desk.past], list(tables[:-1]))
        self.assertEqual((desk.changes, type(desk.changes)), (len(tables) - 1, int))

    def unchanged(self, desk, error, attribute, told, call, *passed, **named):
        """Asks that the call is refused with this error, and that the desk stays as it was."""
        before = (desk.form, desk.past, desk.changes)
        if attribute is None:
            self.refused_bare(error, call, *passed, **named)
        else:
            self.refused(error, attribute, told, call, *passed, **named)
        self.assertIs(desk.form, before[0])
        self.assertEqual((desk.past, desk.changes), before[1:])


class TestPut(Desks):
    def test_some_entries(self):
        desk = Desk(Form.squares((1, 2)))
        self.assertIsNone(desk.put(0, 1, 1))
        self.stands(desk, [((1, 0), (0, 2)), ((1, 1), (1, 2))])
        self.assertIsNone(desk.put(row=1, place=1, entry=1000))
        self.assertIsNone(desk.put(entry=-5, place=0, row=1))
        self.stands(desk, [((1, 0), (0, 2)), ((1, 1), (1, 2)), ((1, 1), (1, 1000)), ((1, -5), (-5, 1000))])

    def test_all_entries_of_small_tables(self):
        for table in (((1,),), ((2, 1), (1, 3)), ((2, 0, 1), (0, 3, -1), (1, -1, 2))):
            for row in range(len(table)):
                for place in range(len(table)):
                    for entry in range(-4, 6):
                        desk = Desk(Form(table))
                        other = changed(table, row, place, entry)
                        if is_sure(other):
                            self.assertIsNone(desk.put(row, place, entry))
                            self.stands(desk, [table, other])
                        else:
                            self.unchanged(desk, NotSure, None, None, desk.put, row, place, entry)

    def test_great_entries(self):
        desk = Desk(Form.squares((1000, 1000)))
        self.unchanged(desk, NotSure, None, None, desk.put, 0, 1, 1000)
        self.unchanged(desk, NotSure, None, None, desk.put, 0, 1, -1000)
        self.unchanged(desk, NotSure, None, None, desk.put, 0, 0, -1000)
        desk.put(0, 1, 999)
        desk.put(1, 0, -999)
        desk.put(0, 0, 1000)
        desk.put(0, 1, 0)
        desk.put(0, 0, 1)
        self.assertEqual(desk.form.table, ((1, 0), (0, 1000)))

    def test_what_leaves_all_as_it_was_counts(self):
        desk = Desk(SIX)
        desk.put(0, 1, 1)
        desk.put(0, 0, 2)
        self.stands(desk, [SIX.table] * 3)
        desk.undo()
        self.stands(desk, [SIX.table] * 2)

    def test_refused(self):
        for form in (ONE, SIX, THREE, FIVE):
            desk = Desk(form)
            for value in (*ODD_VALUES, -1, form.places, 5, 10 ** 79, (0,), form):
                self.unchanged(desk, InvalidIndex, "given", value, desk.put, value, 0, 1)
                self.unchanged(desk, InvalidIndex, "given", value, desk.put, 0, value, 1)
                self.unchanged(desk, InvalidIndex, "given", value, desk.put, value, None, None)
                self.unchanged(desk, InvalidIndex, "given", value, desk.put, entry=1001, place=value, row=0)
            for value in (*ODD_VALUES, -1001, 1001, 10 ** 79, (0,), form):
                self.unchanged(desk, InvalidNumber, "given", value, desk.put, 0, 0, value)
                self.unchanged(desk, InvalidNumber, "given", value, desk.put, entry=value, place=0, row=0)
            self.unchanged(desk, NotSure, None, None, desk.put, 0, 0, 0)
            self.unchanged(desk, NotSure, None, None, desk.put, form.places - 1, form.places - 1, -1000)
            self.stands(desk, [form.table])

    def test_the_row_is_asked_ahead_of_the_place(self):
        desk = Desk(PAIR)
        self.unchanged(desk, InvalidIndex, "given", 2, desk.put, 2, -1, 1)
        self.unchanged(desk, InvalidIndex, "given", True, desk.put, place=None, row=True, entry=None)

    def test_places_that_came_and_went(self):
        desk = Desk(PAIR)
        desk.grow((0, 0))
        desk.put(2, 0, 1)
        desk.leave(0)
        self.unchanged(desk, InvalidIndex, "given", 2, desk.put, 2, 0, 1)
        self.stands(desk, [PAIR.table, ((1, 0, 0), (0, 1, 0), (0, 0, 3)), ((1, 0, 1), (0, 1, 0), (1, 0, 3)),
                           ((1, 0), (0, 3))])


class TestGrow(Desks):
    def compare(self, table, row):
        """Asks what comes of a form that misses some number, and of these entries."""
        last = missed_in_box(table, 15)[0]
        other = tuple(entries + (entry,) for entries, entry in zip(table, row)) + ((*row, last),)
        desk = Desk(Form(table))
        if not is_sure(other):
            self.unchanged(desk, NotSure, None, None, desk.grow, row)
            return 0
        self.assertIsNone(desk.grow(row))
        self.stands(desk, [table, other])
        return 1

    def test_all_small_rows(self):
        for table in (((1,),), ((3,),), ((1, 0), (0, 1)), ((1, 0), (0, 2)), ((2, 1), (1, 2))):
            rows = [()]
            for _ in table:
                rows = [(*row, entry) for row in rows for entry in range(-4, 5)]
            self.assertGreater(sum(self.compare(table, row) for row in rows), 0)

    def test_drawn_forms(self):
        chance = random.Random(101)
        done = 0
        for places in (1, 2, 3, 4):
            for table in some_tables(chance, places, 6, 2, 15):
                if missed_in_box(table, 15):
                    for top in (0, 1, 2):
                        done += self.compare(table, tuple(chance.randint(-top, top) for _ in range(places)))
        self.assertGreater(done, 40)

    def test_what_grows_is_among_what_is_told_of_growing(self):
        for form, rows in ((PAIR, ((0, 0), (1, 1), (-1, 0))), (Form.squares((1, 2)), ((1, 1), (0, 0), (1, -2)))):
            for row in rows:
                desk = Desk(form)
                desk.grow(row=row)
                self.assertEqual(sum(alike(desk.form, other) for other in grown(form)), 1)
                self.assertEqual(desk.form.table[-1], (*row, least_missed(form)))

    def test_four_places_grow(self):
        desk = Desk(MISS)
        desk.grow((0, 1, 2, -1))
        self.assertEqual(desk.form.table[-1], (0, 1, 2, -1, 15))
        self.assertTrue(gives_all(desk.form))
        self.unchanged(desk, TooGreat, "given", 5, desk.grow, (0, 0, 0, 0, 0))

    def test_from_one_place_on(self):
        desk = Desk(ONE)
        tables = [((1,),)]
        for row in ((0,), (0, 1), (1, 0, 2)):
            self.assertIsNone(desk.grow(row))
            tables.append(tuple(entries + (entry,) for entries, entry in zip(tables[-1], row)))
            tables[-1] += ((*row, missed_in_box(tables[-2], 15)[0]),)
            self.stands(desk, tables)

    def test_refused(self):
        for form in (ONE, SIX, THREE, FOUR, MISS, FIVE):
            desk = Desk(form)
            noughts = (0,) * form.places
            for value in (*ODD_VALUES, 0, (), noughts[1:], noughts + (0,), list(noughts), (None,) * (form.places + 1)):
                self.unchanged(desk, InvalidPoint, "index", None, desk.grow, value)
                self.unchanged(desk, InvalidPoint, "index", None, desk.grow, row=value)
            for value in (*ODD_VALUES, -1001, 1001, 10 ** 79, (0,), form):
                for index in range(form.places):
                    row = noughts[:index] + (value,) + (None,) * (form.places - index - 1)
                    self.unchanged(desk, InvalidPoint, "index", index, desk.grow, row)
                    row = (-1000,) * index + (value,) + (1000,) * (form.places - index - 1)
                    self.unchanged(desk, InvalidPoint, "index", index, desk.grow, row=row)
            self.stands(desk, [form.table])

    def test_five_places(self):
        for form in (FIVE, Form.squares((1, 1, 1, 1, 1)), Form.squares((1, 2, 5, 5, 16))):
            desk = Desk(form)
            for row in ((0,) * 5, (1000,) * 5, (-1000, 0, 0, 0, 1)):
                self.unchanged(desk, TooGreat, "given", 5, desk.grow, row)

    def test_forms_that_give_all_numbers(self):
        for form in (FOUR, Form.squares((1, 2, 5, 10)), Form.squares((1, 1, 1, 7))):
            desk = Desk(form)
            for row in ((0,) * 4, (1000,) * 4, (1, 0, 0, 1)):
                self.unchanged(desk, TooGreat, "given", 0, desk.grow, row)

    def test_rows_with_which_it_is_not_sure(self):
        for form, row in (
            (ONE, (2,)), (ONE, (-1000,)), (PAIR, (1, 2)), (PAIR, (1000, -1000)), (SIX, (1, -1)), (THREE, (2, 2, 1)),
            (MISS, (4, 0, 0, 0)), (MISS, (3, 1, 3, 5)),
        ):
            desk = Desk(form)
            self.unchanged(desk, NotSure, None, None, desk.grow, row)


class TestTurn(Desks):
    def test_drawn_turnings(self):
        chance = random.Random(102)
        for places in range(1, 6):
            for table in some_tables(chance, places, 8, 2, 8):
                rows = drawn_turning(chance, places, 3)
                desk = Desk(Form(table))
                self.assertIsNone(desk.turn(rows))
                self.stands(desk, [table, turned_by(table, rows)])
                self.assertEqual(desk.form, Form(table).turned(rows))

    def test_what_leaves_all_as_it_was_counts(self):
        desk = Desk(SIX)
        desk.turn(rows=unit(2))
        desk.turn(((0, 1), (1, 0)))
        self.stands(desk, [SIX.table] * 3)

    def test_refused(self):
        desk = Desk(SIX)
        for value in (*ODD_VALUES, (), ((1, 0),), ((1, 0), (0, 1), (0, 0)), [[1, 0], [0, 1]], [(1, 0), (0, 1)]):
            self.unchanged(desk, InvalidTurning, "index", None, desk.turn, value)
            self.unchanged(desk, InvalidTurning, "index", None, desk.turn, rows=value)
        for value in (*ODD_VALUES, (1,), (1, 0, 0), [1, 0], (1, True), (None, 0)):
            self.unchanged(desk, InvalidTurning, "index", 0, desk.turn, (value, (0, 1)))
            self.unchanged(desk, InvalidTurning, "index", 1, desk.turn, ((1, 0), value))
        for rows in (((1, 0), (0, 2)), ((1, 1), (1, 1)), ((0, 0), (0, 0)), ((1, 2), (2, 1))):
            self.unchanged(desk, InvalidTurning, "index", None, desk.turn, rows)
        self.unchanged(desk, TooGreat, "given", 2 * 10 ** 6 + 2 * 10 ** 3 + 2, desk.turn, ((1, 0), (1000, 1)))
        self.unchanged(desk, TooGreat, "given", 2001, desk.turn, ((1, 1000), (0, 1)))
        self.stands(desk, [SIX.table])


class TestLeave(Desks):
    def test_each_place(self):
        chance = random.Random(103)
        for places in range(2, 6):
            for table in some_tables(chance, places, 9, 3, 5):
                for place in range(places):
                    desk = Desk(Form(table))
                    self.assertIsNone(desk.leave(place))
                    self.stands(desk, [table, tuple(tuple(row) for row in without(table, place))])

    def test_down_to_one_place(self):
        desk = Desk(Form.squares((1, 2, 3, 4, 5)))
        for place in (4, 0, 1):
            desk.leave(place)
        desk.leave(place=0)
        self.assertEqual([form.diagonal for form in desk.past], [(1, 2, 3, 4, 5), (1, 2, 3, 4), (2, 3, 4), (2, 4)])
        self.assertEqual(desk.form.table, ((4,),))
        self.unchanged(desk, TooGreat, "given", 1, desk.leave, 0)

    def test_refused(self):
        for form in (ONE, SIX, THREE, FIVE):
            desk = Desk(form)
            for value in (*ODD_VALUES, -1, form.places, 5, 10 ** 79, (0,), form):
                self.unchanged(desk, InvalidIndex, "given", value, desk.leave, value)
                self.unchanged(desk, InvalidIndex, "given", value, desk.leave, place=value)
        for form in (ONE, Form(((1000,),))):
            desk = Desk(form)
            self.unchanged(desk, TooGreat, "given", 1, desk.leave, 0)
            self.unchanged(desk, TooGreat, "given", 1, desk.leave, place=0)


class TestUndo(Desks):
    def test_step_by_step(self):
        desk = Desk(Form.squares((1, 2)))
        told = [desk.form.table]
        for call, passed in (
            (desk.grow, ((1, 1),)), (desk.put, (2, 0, 0)), (desk.turn, (((1, 0, 0), (0, 0, 1), (0, 1, 1)),)),
            (desk.leave, (1,)), (desk.put, (0, 0, 1)), (desk.grow, ((0, 0),)),
        ):
            call(*passed)
            told.append(desk.form.table)
            self.stands(desk, told)
        while len(told) > 1:
            self.assertIsNone(desk.undo())
            told.pop()
            self.stands(desk, told)
        self.unchanged(desk, NothingToUndo, None, None, desk.undo)
        desk.put(0, 1, 1)
        self.stands(desk, [((1, 0), (0, 2)), ((1, 1), (1, 2))])

    def test_nothing_to_undo(self):
        for form in (ONE, MISS):
            desk = Desk(form)
            self.unchanged(desk, NothingToUndo, None, None, desk.undo)
            desk.put(0, 0, 1)
            desk.undo()
            self.unchanged(desk, NothingToUndo, None, None, desk.undo)
            self.unchanged(desk, NotSure, None, None, desk.put, 0, 0, 0)
            self.unchanged(desk, NothingToUndo, None, None, desk.undo)

    def test_what_was_read_before_stays(self):
        desk = Desk(PAIR)
        desk.put(0, 0, 2)
        form, past, changes = desk.form, desk.past, desk.changes
        desk.grow((0, 0))
        desk.undo()
        desk.undo()
        desk.put(1, 1, 7)
        desk.leave(0)
        self.assertEqual((form.table, changes), (((2, 0), (0, 1)), 1))
        self.assertEqual([other.table for other in past], [PAIR.table])
        self.stands(desk, [PAIR.table, ((1, 0), (0, 7)), ((7,),)])

    def test_drawn_changes(self):
        for seed in range(110, 122):
            chance = random.Random(seed)
            table = some_tables(chance, chance.randint(1, 4), 5, 1, 1)[0]
            desk, told = Desk(Form(table)), [table]
            for _ in range(60):
                self.drawn_change(chance, desk, told)
                self.stands(desk, told)

    def drawn_change(self, chance, desk, told):
        """Changes the desk in some way, or is refused, and does the same with the tables that are told."""
        table = told[-1]
        places = len(table)
        row, place, entry = chance.randrange(places), chance.randrange(places), chance.randint(-2, 9)
        word = chance.choice(("put", "put", "turn", "leave", "undo"))
        if word == "put":
            other = changed(table, row, place, entry)
            if is_sure(other):
                desk.put(row, place, entry)
                told.append(other)
            else:
                self.refused_bare(NotSure, desk.put, row, place, entry)
        elif word == "turn":
            rows = drawn_turning(chance, places, 1)
            other = turned_by(table, rows)
            if max(abs(entry) for entries in other for entry in entries) <= 1000:
                desk.turn(rows)
                told.append(other)
            else:
                self.assertRaises(TooGreat, desk.turn, rows)
        elif word == "leave" and places > 1:
            desk.leave(place)
            told.append(tuple(tuple(row) for row in without(table, place)))
        elif word == "undo" and len(told) > 1:
            desk.undo()
            told.pop()


class TestDesk(Desks):
    def test_no_form(self):
        for value in (*ODD_VALUES, 1, ((1,),), "1", Form, Desk(PAIR)):
            self.refused(NotAForm, "given", value, Desk, value)
            self.refused(NotAForm, "given", value, Desk, form=value)

    def test_two_desks_side_by_side(self):
        one, two = Desk(PAIR), Desk(form=PAIR)
        one.put(0, 0, 5)
        two.leave(1)
        two.put(0, 0, 3)
        self.stands(one, [PAIR.table, ((5, 0), (0, 1))])
        self.stands(two, [PAIR.table, ((1,),), ((3,),)])
        one.undo()
        self.stands(one, [PAIR.table])
        self.assertEqual(two.changes, 2)
        self.assertEqual(PAIR, Form.squares((1, 1)))

    def test_desks_equal_themselves_alone_and_are_true(self):
        one, two = Desk(PAIR), Desk(PAIR)
        self.assertTrue(one)
        self.assertIs(one == one, True)
        self.assertIs(one != one, False)
        for other in (two, PAIR, *ODD_VALUES[:-2], 1, one.trial()):
            self.assertIs(one == other, False)
            self.assertIs(one != other, True)

    def test_what_is_read_is_not_assigned(self):
        desk = Desk(PAIR)
        for name in ("form", "changes", "past"):
            with self.assertRaises(AttributeError):
                setattr(desk, name, desk.form)
        self.stands(desk, [PAIR.table])

    def test_nothing_is_changed_that_is_passed(self):
        form = Form(((2, 1), (1, 3)))
        table = form.table
        desk = Desk(form)
        self.assertIs(desk.form, form)
        desk.put(0, 1, 0)
        desk.turn(((1, 1), (0, 1)))
        desk.grow((0, 0))
        self.assertIs(form.table, table)
        self.assertEqual(table, ((2, 1), (1, 3)))
        self.assertIs(desk.past[0], form)

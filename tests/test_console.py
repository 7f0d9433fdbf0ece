"""Consoles: each line with its answer, compared with a desk, with functions of the package, and with plain searches."""

import random

from fifteenforms.alike import count_turnings
from fifteenforms.console import Console
from fifteenforms.desks import Desk
from fifteenforms.errors import InvalidLine, NoAnswer, NotAForm, WrongValue
from fifteenforms.fifteen import least_missed, missed
from fifteenforms.forms import Form
from fifteenforms.writing import count_writings
from tests.helping import Refusing
from tests.judging import lacked
from tests.plain import ODD_VALUES, all_turnings, points_by_value, some_tables, value_at

PAIR = Form.squares((1, 1))
THREE = Form.squares((1, 1, 1))
FOUR = Form.squares((1, 1, 1, 1))
MISS = Form.squares((1, 2, 5, 5))
SIX = Form(((2, 1), (1, 2)))
ONE = Form(((1,),))
FIVE = Form.squares((1, 2, 3, 4, 5))
FORMS = (ONE, PAIR, SIX, THREE, MISS, FOUR, FIVE, Form(((3,),)), Form(((1, 0, 1), (0, 2, 1), (1, 1, 5))))


def shown(table):
    return ", ".join(" ".join(str(entry) for entry in row) for row in table)


class Consoles(Refusing):
    def no_line(self, console, line):
        """Asks that the line is refused and that the form stays as it was."""
        before = console.say("show")
        self.refused(InvalidLine, "given", line, console.say, line)
        self.assertEqual(console.say("show"), before)

    def answers(self, console, line, told):
        found = console.say(line)
        self.assertEqual((found, type(found)), (told, str), line)


class TestQuestions(Consoles):
    def compare(self, table, numbers):
        console = Console(Form(table))
        missing = lacked(table, max(15, *numbers))
        points = points_by_value(table, max(numbers))
        for number in numbers:
            self.given(console, table, number, number not in missing)
            self.answers(console, f"count {number}", str(len(points[number])))
            told = [str(at) for at in missing if at <= number]
            self.answers(console, f"missed {number}", " ".join(told) or "none")
        self.answers(console, "least", str(missing[0]) if missing else "none")
        self.answers(console, "show", shown(table))

    def given(self, console, table, number, is_given):
        found = console.say(f"gives {number}")
        if not is_given:
            self.assertEqual(found, "no")
            return
        point = [int(place) for place in found.split(" ")]
        self.assertEqual(" ".join(str(place) for place in point), found)
        self.assertEqual((len(point), value_at(table, point)), (len(table), number))

    def test_drawn_forms(self):
        chance = random.Random(171)
        for places in (1, 2, 3):
            for table in some_tables(chance, places, 6, 2, 6):
                self.compare(table, range(1, 21))

    def test_forms_of_squares(self):
        for form in (ONE, PAIR, THREE, MISS, FOUR):
            self.compare(form.table, (1, 2, 7, 14, 15, 16))

    def test_great_numbers(self):
        for form in FORMS:
            console = Console(form)
            for number in (999, 1000):
                self.answers(console, f"count {number}", str(count_writings(form, number)))
                told = " ".join(str(at) for at in missed(form, number))
                self.answers(console, f"missed {number}", told or "none")
                self.given(console, form.table, number, count_writings(form, number) > 0)
            self.answers(console, "least", {None: "none"}.get(least_missed(form), str(least_missed(form))))
            self.answers(console, "turnings", str(count_turnings(form)))

    def test_turnings(self):
        for form in (ONE, PAIR, SIX, THREE, Form(((2, 1, 0), (1, 2, 1), (0, 1, 2)))):
            self.answers(Console(form), "turnings", str(len(all_turnings(form.table, form.table))))

    def test_questions_change_nothing(self):
        console = Console(PAIR)
        console.say("put 0 0 5")
        for line in ("gives 5", "gives 3", "count 5", "least", "missed 20", "turnings", "show"):
            self.assertEqual(console.say(line), console.say(line))
        self.answers(console, "show", "5 0, 0 1")
        self.answers(console, "undo", "ok")
        self.answers(console, "undo", "NothingToUndo")

    def test_entries_below_nought(self):
        table = ((2, -1), (-1, 3))
        console = Console(Form(table))
        self.answers(console, "show", "2 -1, -1 3")
        for number in (3, 7):
            self.given(console, table, number, True)


class TestChanges(Consoles):
    def test_step_by_step(self):
        console = Console(form=Form.squares((1, 2)))
        for line, told, form in (
            ("grow 1 1", "ok", "1 0 1, 0 2 1, 1 1 5"), ("put 2 0 0", "ok", "1 0 0, 0 2 1, 0 1 5"),
            ("put 0 1 2", "NotSure", None), ("put 3 0 1", "InvalidIndex", None), ("put 0 -1 1", "InvalidIndex", None),
            ("put 0 0 1001", "InvalidNumber", None), ("put 0 0 -1001", "InvalidNumber", None),
            ("put 0 0 1000", "ok", "1000 0 0, 0 2 1, 0 1 5"), ("put 1 2 -3", "ok", "1000 0 0, 0 2 -3, 0 -3 5"),
            ("leave 3", "InvalidIndex", None), ("leave -1", "InvalidIndex", None), ("leave 1", "ok", "1000 0, 0 5"),
            ("grow 1001 0", "InvalidPoint", None), ("grow 1000 0", "NotSure", None),
            ("grow 0 -1001", "InvalidPoint", None),
            ("leave 0", "ok", "5"), ("leave 0", "TooGreat", None), ("leave 1", "InvalidIndex", None),
            ("grow 3", "NotSure", None), ("put 0 0 7", "ok", "7"), ("undo", "ok", "5"), ("undo", "ok", "1000 0, 0 5"),
        ):
            before = console.say("show")
            self.answers(console, line, told)
            self.answers(console, "show", before if form is None else form)
        for _ in range(5):
            self.answers(console, "undo", "ok")
        self.answers(console, "undo", "NothingToUndo")
        self.answers(console, "show", "1 0, 0 2")

    def test_too_great(self):
        console = Console(FOUR)
        self.answers(console, "grow 0 0 0 0", "TooGreat")
        console = Console(MISS)
        self.answers(console, "grow 0 1 2 -1", "ok")
        self.answers(console, "show", "1 0 0 0 0, 0 2 0 0 1, 0 0 5 0 2, 0 0 0 5 -1, 0 1 2 -1 15")
        self.answers(console, "grow 0 0 0 0 0", "TooGreat")
        self.answers(console, "grow 0 0 0 0 2000", "InvalidPoint")

    def test_great_integers(self):
        console = Console(PAIR)
        great = "9" * 79
        for line, told in (
            (f"put {great} 0 1", "InvalidIndex"), (f"put 0 {great} 1", "InvalidIndex"),
            (f"put 0 0 {great}", "InvalidNumber"),
            (f"put 0 0 -{great}", "InvalidNumber"), (f"leave {great}", "InvalidIndex"),
            (f"grow 0 -{great}", "InvalidPoint"),
        ):
            self.answers(console, line, told)
        self.answers(console, "undo", "NothingToUndo")
        for word in ("gives", "count", "missed"):
            self.no_line(console, f"{word} {great}")

    def test_compared_with_a_desk(self):
        for seed in range(181, 189):
            chance = random.Random(seed)
            form = chance.choice(FORMS)
            console, desk = Console(form), Desk(form)
            for _ in range(80):
                places = desk.form.places
                row, place, entry = (chance.randint(-1, places) for _ in range(3))
                entries = tuple(chance.randint(-2, 2) for _ in range(places))
                line, call, passed = chance.choice((
                    (f"put {row} {place} {entry}", desk.put, (row, place, entry)),
                    (f"put {row} {row} {entry + 2}", desk.put, (row, row, entry + 2)),
                    ("grow " + " ".join(str(entry) for entry in entries), desk.grow, (entries,)),
                    (f"leave {place}", desk.leave, (place,)),
                    ("undo", desk.undo, ()),
                ))
                self.answers(console, line, self.done(call, passed))
                self.answers(console, "show", shown(desk.form.table))

    def done(self, call, passed):
        try:
            call(*passed)
        except (WrongValue, NoAnswer) as error:
            return type(error).__name__
        return "ok"


class TestLines(Consoles):
    def test_no_strings(self):
        console = Console(PAIR)
        for value in (*ODD_VALUES, 5, ("show",), ["show"], b"show", b"undo", PAIR):
            self.no_line(console, value)
            self.refused(InvalidLine, "given", value, console.say, line=value)

    def test_words(self):
        console = Console(PAIR)
        console.say("put 0 0 3")
        for line in (
            "", " ", "  ", "\n", "Show", "SHOW", "shows", "sho", "turn 1 0 0 1", "trial", "form", "none", "ok",
            "0", "7",
            "gives", "count", "missed", "put", "grow", "leave", "say", "help", "undo undo", "show show", "least least",
            "5 gives", "gives gives", "gives N", "put R P E", "leave P", "grow E1 E2", "show 0", "least 5", "undo 1",
            "turnings 0", "show, undo", "undo;", "undo.", "gives five", "past", "changes",
        ):
            self.no_line(console, line)
        self.answers(console, "undo", "ok")

    def test_spaces_and_newlines(self):
        console = Console(PAIR)
        console.say("put 0 0 3")
        for line in (
            "put 0 0 1", "grow 0 0", "leave 0", "undo", "gives 5", "count 5", "least", "missed 5", "turnings", "show",
        ):
            for wrong in (
                " " + line, line + " ", line + "  ", line + "\n", "\n" + line, line + "\t", line + "\n" + line,
                line.upper(),
                line.title(), line + ",", line + " x", line + " +1", line + " 1.0", line + " -0", line + " 00",
            ):
                self.no_line(console, wrong)
            if " " in line:
                for space in ("  ", "\n", "\t", ", ", " \n", "_", "", "   "):
                    self.no_line(console, line.replace(" ", space))
                    self.no_line(console, line.replace(" ", space, 1))
        self.answers(console, "show", "3 0, 0 1")
        self.answers(console, "undo", "ok")

    def test_integers(self):
        console = Console(PAIR)
        for wrong in (
            "00", "01", "007", "+1", "+0", "-0", "-00", "-01", "--1", "- 1", "1-", "1.", "1.0", ".5", "1e2",
            "0x1", "0b1", "1_0",
            "1,0", "one", "", "x", "True", "None", "1\n", "\n1", "(1)", "'1'", "~", "-", "+", "1 ", "0 0 0 0 0 0",
        ):
            for line in (
                f"put {wrong} 0 1", f"put 0 {wrong} 1", f"put 0 0 {wrong}", f"grow {wrong} 0", f"grow 0 {wrong}",
                f"leave {wrong}", f"gives {wrong}", f"count {wrong}", f"missed {wrong}",
            ):
                self.no_line(console, line)
        self.answers(console, "undo", "NothingToUndo")

    def test_numbers(self):
        console = Console(FOUR)
        for word in ("gives", "count", "missed"):
            for number in (0, -1, 1001, -1000, 10 ** 20):
                self.no_line(console, f"{word} {number}")
            for number in (1, 2, 999, 1000):
                self.assertIs(type(console.say(f"{word} {number}")), str)
            self.no_line(console, f"{word} 1 2")

    def test_another_number_of_integers(self):
        console = Console(PAIR)
        for line in (
            "put 0 0", "put 0", "put", "put 0 0 1 1", "leave", "leave 0 0", "undo 0", "grow", "grow 0", "grow 0 0 0",
        ):
            self.no_line(console, line)
        self.answers(console, "undo", "NothingToUndo")

    def test_grow_with_the_places_there_are_now(self):
        console = Console(ONE)
        for places in range(1, 5):
            for many in range(0, 8):
                if many != places:
                    self.no_line(console, "grow" + " 0" * many)
            if places < 4:
                self.answers(console, "grow" + " 0" * places, "ok")
        console.say("leave 0")
        self.no_line(console, "grow 0 0 0 0")
        self.answers(console, "grow 5 0 0", "NotSure")

    def test_nothing_is_changed_by_what_is_no_line(self):
        console = Console(PAIR)
        console.say("put 0 0 5")
        console.say("put 0 1 1")
        for line in ("undo ", "put 0 0 07", "leave", "grow 0", "leave 00", None):
            self.no_line(console, line)
        self.answers(console, "undo", "ok")
        self.answers(console, "show", "5 0, 0 1")
        self.answers(console, "undo", "ok")
        self.answers(console, "undo", "NothingToUndo")


class TestConsole(Refusing):
    def test_no_form(self):
        for value in (*ODD_VALUES, 1, ((1,),), "1", Form, Desk(PAIR), Console(PAIR)):
            self.refused(NotAForm, "given", value, Console, value)
            self.refused(NotAForm, "given", value, Console, form=value)

    def test_two_consoles_side_by_side(self):
        one, two = Console(PAIR), Console(PAIR)
        one.say("put 0 0 5")
        self.assertEqual((one.say("show"), two.say("show")), ("5 0, 0 1", "1 0, 0 1"))
        self.assertEqual((two.say("undo"), one.say(line="undo")), ("NothingToUndo", "ok"))

    def test_consoles_equal_themselves_alone_and_are_true(self):
        one, two = Console(PAIR), Console(PAIR)
        self.assertTrue(one)
        self.assertIs(one == one, True)
        self.assertIs(one != one, False)
        for other in (two, PAIR, Desk(PAIR), *ODD_VALUES[:-2], 1):
            self.assertIs(one == other, False)
            self.assertIs(one != other, True)

    def test_the_form_that_is_passed_stays(self):
        form = Form(((1, 0), (0, 1)))
        console = Console(form)
        console.say("put 0 0 5")
        console.say("leave 1")
        self.assertEqual(form.table, ((1, 0), (0, 1)))

"""Tests of peakpeel.desk: point 15."""

import random
import re
import unittest

from peakpeel import errors
from peakpeel.counting import times_number
from peakpeel.desk import Desk
from peakpeel.ranges import time_ranges
from peakpeel.ridges import Ridge
from peakpeel.times import rounds_needed, times_of
from tests.model import PlainRidge, do, drawn_change, drawn_entry
from tests.plain import NUMBER, drawn_entries, plain_text, plain_times, with_changed_signs
from tests.wrong import NOT_TEXTS, WRONG_TEXTS

FROM_0 = "(?:0|[1-9][0-9]{0,30})"
ENTRY = "(?:0|-?[1-9][0-9]{0,30})"
COMMAND = re.compile(
    f"row (?:-|{NUMBER}(?: {NUMBER}){{0,59}})|put {FROM_0} {ENTRY}|peel {FROM_0}|take {FROM_0}|change {FROM_0} {ENTRY}"
    f"|undo|show|times|needed|number|ranges {FROM_0}"
)
# One of each command that needs a ridge.
NEED_A_RIDGE = [
    "put 0 5", "put 3 -5", "put 99 0", "peel 0", "peel 1", "take 0", "take 99", "change 0 7", "change 99 7", "undo", "show",
    "times", "needed", "number", "ranges 0", "ranges 99",
]
NO_COMMANDS = [
    "", " ", "-", "0", "ok", "row", "row ", "ROW 1", "Row 1", "rows 1", "row1", " row 1", "row  1", "row 1 ", "row - -", "row - 1",
    "row 1 -", "row -0", "row 01", "row +1", "row 1,2", "row [1]", "row x", "row 1\n", "row\t1", "row\n1", "row 1\t2",
    "put", "put ", "put 0", "put 0 ", "put 0 1 2", "put -1 5", "put -0 5", "put 00 5", "put 0 05", "put 0 -0", "put 0 +5",
    "put 0  5", "put  0 5", "put 0 5 ", "put - 5", "put 0 -", "put 0 --5", "put x 5", "put 0 x", "put 0 5.0", "put 0 *",
    "peel", "peel ", "peel -1", "peel -0", "peel 01", "peel 1 1", "peel x", "peel +1", "peel -", "peel rounds=1", "peel 1\n",
    "take", "take ", "take -1", "take 00", "take 0 0", "take x", "take -", "change", "change 0", "change -1 5", "change 0 05",
    "change 0 5 5", "change 0 x", "change 00 5", "undo ", " undo", "undo 1", "undo 0", "undo undo", "Undo", "undo\n", "show ",
    "show 0", "show row", "times ", "times 0", "needed ", "needed 1", "number ", "number 0", "ranges", "ranges ", "ranges -1",
    "ranges 0 0", "ranges 01", "ranges x", "ranges *", "exit", "help", "twin", "rows_so_far", "try_peel 1", "try 1", "sum",
    "read 1", "execute show", "put 0 5 row 1", "row 1 put 0 5", "show times", "show\nshow", "row \u0665", "put \u0665 5",
    "peel \u00b2", "take \uff11", "row\u00a01", "undo\x00", "sh\u00f6w", "put 0 \u22125", "None", "put None 5",
]


class DeskCase(unittest.TestCase):
    def refused(self, desk, row, error):
        """The exact error; behind it the ridge is as it was."""
        before = self.told(desk)
        with self.assertRaises(errors.PeakError) as caught:
            desk.execute(row)
        self.assertIs(type(caught.exception), error, row)
        self.assertEqual(self.told(desk), before, row)
        return caught.exception

    def told(self, desk):
        """What a desk tells without changing its ridge."""
        try:
            return [desk.execute(row) for row in ("show", "times", "needed")]
        except errors.NoRidge:
            return None

    def all_undone(self, desk):
        """The rows, as texts, from the present one back to the first one; the desk is there then."""
        rows = [desk.execute("show")]
        while True:
            try:
                self.assertEqual(desk.execute("undo"), "ok")
            except errors.NothingToUndo:
                return rows
            rows.append(desk.execute("show"))


class ExampleTest(DeskCase):
    def test_interface(self):
        desk = Desk()
        rows = [
            "row 5 1 4 2", "put 4 3", "times", "needed", "ranges 1", "peel 1", "show", "undo", "take 0", "number",
        ]
        self.assertEqual(
            [desk.execute(row) for row in rows],
            ["ok", "5", "1 3 1 2 1", "3", "1:5:* 2:2:4 3:*:1", "3", "1 2", "ok", "5", "13"],
        )

    def test_by_hand(self):
        desk = Desk()
        rows = [
            "row -", "show", "times", "needed", "number", "peel 0", "undo", "put 0 -7", "show", "ranges 0", "put 1 7",
            "change 0 8", "show", "times", "peel 2", "show", "undo", "undo", "undo", "undo", "show",
        ]
        self.assertEqual(
            [desk.execute(row) for row in rows],
            ["ok", "-", "-", "0", "0", "0", "ok", "1", "-7", "1:*:*", "2", "-7", "8 7", "1 2", "2", "-", "ok", "ok", "ok",
             "ok", "-"],
        )
        self.refused(desk, "undo", errors.NothingToUndo)


class CommandTest(DeskCase):
    def check_reading(self, desk, plain):
        """The commands that change nothing, against the functions and against plain rows."""
        row = plain.now()
        times = plain_times(row)
        self.assertEqual(desk.execute("show"), plain_text(row))
        self.assertEqual(desk.execute("times"), plain_text(times))
        self.assertEqual(desk.execute("times"), plain_text(times_of(row)))
        self.assertEqual(desk.execute("needed"), str(rounds_needed(row)))
        if len(row) <= 40:
            self.assertEqual(desk.execute("number"), str(times_number(times)))
        else:
            self.assertEqual(self.refused(desk, "number", errors.TooLarge).limit, 40)
        for place in range(len(row)):
            items = [":".join(["*" if part is None else str(part) for part in item]) for item in time_ranges(row, place)]
            self.assertEqual(desk.execute(f"ranges {place}"), " ".join(items))

    def test_drawn_runs(self):
        for seed in range(60):
            chance = random.Random(4000 + seed)
            row = drawn_entries(1, chance.choice([5, 60]), 5000 + seed)[0]
            desk, ridge, plain = Desk(), Ridge(row), PlainRidge(row)
            self.assertEqual(desk.execute("row " + plain_text(row)), "ok")
            for _ in range(chance.choice([5, 25])):
                name, arguments = drawn_change(plain, chance)
                command = " ".join([name] + [str(argument) for argument in arguments])
                told = desk.execute(command)
                self.assertIs(type(told), str)
                known = getattr(plain, name)(*arguments)
                self.assertEqual(do(ridge, name, arguments), known)
                self.assertEqual(told, "ok" if name == "undo" else str(known), command)
                self.assertEqual(desk.execute("show"), plain_text(ridge.row_now))
            self.check_reading(desk, plain)
            self.assertEqual(self.all_undone(desk), [plain_text(row) for row in plain.rows[::-1]])

    def test_short_rows(self):
        for row in [[], [0], [-3], [4, 4], [5, 1, 4, 2, 3], [3, 3, 9], list(range(40)), [1] * 41, list(range(60))]:
            desk = Desk()
            desk.execute("row " + plain_text(row))
            self.check_reading(desk, PlainRidge(row))
            self.assertEqual(len(self.all_undone(desk)), 1)

    def test_rounds(self):
        for rounds, known, left in [("0", "0", "5 1 4 2 3"), ("1", "3", "1 2"), ("2", "4", "1"), ("9" * 31, "5", "-")]:
            desk = Desk()
            desk.execute("row 5 1 4 2 3")
            self.assertEqual([desk.execute("peel " + rounds), desk.execute("show")], [known, left])
            self.assertEqual(self.all_undone(desk), [left, "5 1 4 2 3"])

    def test_a_new_row_has_nothing_to_undo(self):
        desk = Desk()
        desk.execute("row 5 1 4")
        desk.execute("put 0 3")
        desk.execute("peel 1")
        for row in ("2 2 7", "2 2 7", "-"):
            self.assertEqual(desk.execute("row " + row), "ok")
            self.refused(desk, "undo", errors.NothingToUndo)
            self.assertEqual([desk.execute("show"), desk.execute("put 0 1")], [row, "4" if row != "-" else "1"])
        self.assertEqual(self.all_undone(desk), ["1", "-"])

    def test_two_desks(self):
        one, two = Desk(), Desk()
        one.execute("row 5 1 4")
        self.refused(two, "show", errors.NoRidge)
        two.execute("row 7")
        one.execute("take 0")
        two.execute("put 1 8")
        self.assertEqual([one.execute("show"), two.execute("show")], ["1 4", "7 8"])

    def test_120_changes(self):
        desk = Desk()
        desk.execute("row -")
        for number in range(60):
            self.assertEqual(desk.execute(f"put {number // 2} {number}"), str(number + 1))
        for number in range(60):
            desk.execute(f"change {number} {-number}")
        self.assertEqual(len(self.all_undone(desk)), 121)


class NumberTest(DeskCase):
    def desk(self):
        desk = Desk()
        desk.execute("row 5 1 4")
        desk.execute("put 0 3")
        return desk

    def test_31_digits(self):
        desk = self.desk()
        great, least = "9" * 31, "1" + "0" * 30
        self.assertEqual(desk.execute("put 0 " + great), "5")
        self.assertEqual(desk.execute("change 0 -" + great), great)
        self.assertEqual(desk.execute("change 0 " + least), "-" + great)
        self.assertEqual(desk.execute("take 0"), least)
        self.assertEqual(desk.execute("peel " + least), "4")
        for command in ("put {} 5", "put {} -5", "take {}", "change {} 5", "ranges {}"):
            self.refused(desk, command.format(great), errors.InvalidPlace)
            self.refused(desk, command.format(least), errors.InvalidPlace)

    def test_32_digits(self):
        desk = self.desk()
        for word in ("1" + "0" * 31, "9" * 32, "1" * 60, "7" * 5000):
            for command in (
                f"put {word} 5", f"put 0 {word}", f"put 0 -{word}", f"peel {word}", f"take {word}", f"change {word} 5",
                f"change 0 {word}", f"change 0 -{word}", f"ranges {word}", f"put {word} {word}", f"undo {word}",
            ):
                self.refused(desk, command, errors.InvalidCommand)
                self.refused(Desk(), command, errors.InvalidCommand)

    def test_entries_of_rows_have_any_number_of_digits(self):
        for word in ("9" * 31, "1" + "0" * 31, "-" + "9" * 32, "8" * 200, "-" + "7" * 1500):
            desk = Desk()
            self.assertEqual([desk.execute(f"row {word} 1"), desk.execute("show")], ["ok", f"{word} 1"])
            self.assertEqual([desk.execute("take 0"), desk.execute("undo")], [word, "ok"])
            self.assertEqual(desk.execute("ranges 1").count(word), 1)

    def test_sixty_entries(self):
        for entry in ("0", "-1", "9" * 31):
            desk = self.desk()
            self.refused(desk, "row " + " ".join([entry] * 61), errors.InvalidCommand)
            self.refused(desk, "row " + " ".join([entry] * 62), errors.InvalidCommand)
            self.refused(Desk(), "row " + " ".join([entry] * 61), errors.InvalidCommand)
            self.refused(desk, "row " + " ".join(["0"] * 700), errors.InvalidCommand)
            self.assertEqual(desk.execute("undo"), "ok")
            text = " ".join([entry] * 60)
            self.assertEqual([desk.execute("row " + text), desk.execute("show")], ["ok", text])
            for place in (0, 60):
                self.assertEqual(self.refused(desk, f"put {place} 5", errors.TooLarge).limit, 60)
            self.refused(desk, "put 61 5", errors.InvalidPlace)
            self.refused(desk, "undo", errors.NothingToUndo)
            desk.execute("take 0")
            self.assertEqual(desk.execute("put 59 5"), "60")


class WrongTest(DeskCase):
    def test_without_a_ridge(self):
        for command in NEED_A_RIDGE:
            self.assertTrue(COMMAND.fullmatch(command))
            self.refused(Desk(), command, errors.NoRidge)
        desk = Desk()
        for _ in range(2):
            for command in NEED_A_RIDGE:
                self.refused(desk, command, errors.NoRidge)
        self.assertEqual(desk.execute("row 2"), "ok")

    def desks(self):
        """A desk without a ridge, and one whose ridge has changes."""
        desk = Desk()
        for command in ("row 5 1 4 2", "put 4 3", "peel 1"):
            desk.execute(command)
        return [Desk(), desk]

    def test_no_commands(self):
        wrong_rows = ["row " + text for text in WRONG_TEXTS] + WRONG_TEXTS
        for desk in self.desks():
            for row in NO_COMMANDS + wrong_rows:
                with self.subTest(row=row[:60]):
                    self.assertFalse(COMMAND.fullmatch(row))
                    self.refused(desk, row, errors.InvalidCommand)
            for at, value in enumerate(NOT_TEXTS + [["show"], ("row", "1"), b"show"]):
                with self.subTest(at=at):
                    self.refused(desk, value, errors.InvalidCommand)
        self.assertEqual(self.all_undone(desk), ["1 2", "5 1 4 2 3", "5 1 4 2"])

    def test_changed_signs(self):
        chance = random.Random(121)
        commands = [command for command in NEED_A_RIDGE for _ in range(12)]
        commands += ["row " + plain_text(row) for row in drawn_entries(150, 6, 122) + drawn_entries(40, 60, 123)]
        commands += [f"{name} 0 {drawn_entry(chance)}" for name in ("put", "change") for _ in range(60)]
        fresh, desk = self.desks()
        found = []
        for command in commands:
            row = with_changed_signs(command, chance.randint(1, 2), chance)
            found.append(bool(COMMAND.fullmatch(row)))
            if not found[-1]:
                self.refused(fresh, row, errors.InvalidCommand)
                self.refused(desk, row, errors.InvalidCommand)
                continue
            if not row.startswith("row "):
                self.refused(fresh, row, errors.NoRidge)
            self.check_against_a_ridge(row)
        self.assertGreater(found.count(True), 60)
        self.assertGreater(found.count(False), 200)
        self.assertEqual(self.all_undone(desk), ["1 2", "5 1 4 2 3", "5 1 4 2"])

    def check_against_a_ridge(self, row):
        """A command that changes a ridge, or a new row: the desk does and raises what the ridge does."""
        name, *words = row.split(" ")
        if name == "row":
            desk = Desk()
            self.assertEqual([desk.execute(row), desk.execute("show")], ["ok", row.partition(" ")[2]])
        elif name in ("put", "take", "change", "peel", "undo"):
            desk, ridge = Desk(), Ridge([5, 1, 4, 2, 3])
            desk.execute("row 5 1 4 2 3")
            try:
                known = str(do(ridge, name, [int(word) for word in words]))
            except errors.PeakError as error:
                self.refused(desk, row, type(error))
            else:
                self.assertEqual(desk.execute(row), "ok" if name == "undo" else known)
            self.assertEqual(desk.execute("show"), plain_text(ridge.row_now))

    def test_errors_of_the_ridge_and_the_functions(self):
        for text, wrong in [("-", ["0", "1", "9" * 31]), ("5 1 4 2 3", ["5", "6", "9" * 31])]:
            desk = Desk()
            desk.execute("row " + text)
            for word in wrong:
                for command in (f"take {word}", f"change {word} 7", f"ranges {word}"):
                    self.refused(desk, command, errors.InvalidPlace)
                if word not in ("0", "5"):
                    self.refused(desk, f"put {word} 7", errors.InvalidPlace)
            self.refused(desk, "undo", errors.NothingToUndo)
        for many in (40, 41, 60):
            desk = Desk()
            desk.execute("row " + " ".join(["3 1"] * 30)[:2 * many - 1])
            if many > 40:
                self.assertEqual(self.refused(desk, "number", errors.TooLarge).limit, 40)
            else:
                self.assertEqual(desk.execute("number"), str(times_number([1, 2] * 20)))

    def test_errors_change_nothing(self):
        desk = self.desks()[1]
        for row, error in [
            ("row 1 x", errors.InvalidCommand), ("row", errors.InvalidCommand), ("put 9 1", errors.InvalidPlace),
            ("take 2", errors.InvalidPlace), ("change 2 1", errors.InvalidPlace), ("ranges 2", errors.InvalidPlace),
            ("undo 1", errors.InvalidCommand), ("put 0 01", errors.InvalidCommand), (None, errors.InvalidCommand),
        ]:
            self.refused(desk, row, error)
        self.assertEqual(self.all_undone(desk), ["1 2", "5 1 4 2 3", "5 1 4 2"])

"""neverhalves/desk.py: its section."""
import random
import unittest

from helping import (
    A4, APART, B2, D4, DOUBLE, F4, G2, LONE, MARKOV, THREE, TWO, Case, blocks, random_row, units, with_marks,
)
from neverhalves import boards, books, ends, hands, readers, texts
from neverhalves.desk import Desk
from neverhalves.errors import (
    DoubleName, Endless, InvalidBoard, InvalidName, InvalidRow, NothingToUndo, UnknownName, Unreadable, WrongKind,
)

HUGE = 10 ** 30
MARKED = with_marks(THREE, (1, -2, 0), (0, 3, 1))
NO_NAMES = ["", "A", "a1", "a b", " a", "a ", "abcdefghi", "-", "z_", "a\n", "ab\t", "~", "aB", "a" * 100]
WRONG_BOARDS = [(), ((),), ((1,),), ((0, 1), (1, 0)), ((0, 2), (0, 0)), ((0, 1), (-1, 0), (1,))]


def told_by(desk):
    """All that a desk tells, but for its forks that are not open."""
    named = {}
    for name in desk.names():
        try:
            named[name] = desk.board_named(name)
        except WrongKind:
            named[name] = desk.row_named(name)
    return desk.fork, desk.forks(), named, len(desk)


def set_up():
    """A desk with two boards and two rows."""
    desk = Desk()
    desk.put("two", TWO)
    desk.put("mark", MARKED)
    desk.note("row", (0, 1, 0))
    desk.note("none", ())
    return desk


class DeskCase(Case):
    """A test case that looks whether a call that fails leaves a desk as it was."""

    def keeps(self, desk, error, wrong, function, *told, **named):
        before = told_by(desk)
        self.fails(error, wrong, function, *told, **named)
        self.assertEqual(told_by(desk), before)


class Names(DeskCase):
    def test_a_new_desk(self):
        desk = Desk()
        self.assertEqual(told_by(desk), ("main", ["main"], {}, 0))
        self.assertEqual(desk.names(), [])
        self.fails(NothingToUndo, 0, desk.undo)

    def test_put_and_note(self):
        desk = Desk()
        self.assertIsNone(desk.put(name="t", board=TWO))
        self.assertIsNone(desk.note(name="r", row=(0, 5, HUGE)))
        self.assertIs(desk.board_named(name="t"), TWO)
        self.assertEqual(desk.row_named(name="r"), (0, 5, HUGE))
        self.assertEqual(told_by(desk), ("main", ["main"], {"t": TWO, "r": (0, 5, HUGE)}, 2))

    def test_over_an_elder_name(self):
        desk = Desk()
        desk.put("a", TWO)
        desk.put("a", MARKED)
        self.assertEqual(desk.board_named("a"), MARKED)
        desk.note("a", (1,))
        self.assertEqual(desk.row_named("a"), (1,))
        self.fails(WrongKind, "a", desk.board_named, "a")
        desk.note("a", ())
        self.assertEqual(desk.row_named("a"), ())
        self.fails(WrongKind, "a", desk.board_named, "a")
        desk.put("a", LONE)
        self.assertEqual(desk.board_named("a"), LONE)
        self.fails(WrongKind, "a", desk.row_named, "a")
        self.assertEqual((desk.names(), len(desk)), (["a"], 5))
        for wanted in [(), (1,), MARKED, TWO]:
            desk.undo()
            self.assertEqual(told_by(desk)[2], {"a": wanted})
        desk.undo()
        self.assertEqual(told_by(desk), ("main", ["main"], {}, 0))

    def test_names_ascend_and_are_new(self):
        desk = Desk()
        for name in ("b", "zz", "a", "abcdefgh", "ab", "z"):
            desk.note(name, ())
        self.assertEqual(desk.names(), ["a", "ab", "abcdefgh", "b", "z", "zz"])
        desk.branch("c")
        desk.branch("aa")
        self.assertEqual(desk.forks(), ["aa", "c", "main"])
        self.assertEqual(desk.same_as("b"), ["a", "ab", "abcdefgh", "z", "zz"])
        for function, told in ((desk.names, []), (desk.forks, []), (desk.same_as, ["a"])):
            first = function(*told)
            self.assertIsNot(first, function(*told))
            wanted = list(first)
            first.append("more")
            self.assertEqual(function(*told), wanted)

    def test_drop(self):
        desk = set_up()
        self.assertIsNone(desk.drop(name="row"))
        self.assertEqual(desk.names(), ["mark", "none", "two"])
        self.keeps(desk, UnknownName, "row", desk.drop, "row")
        desk.undo()
        self.assertEqual(desk.row_named("row"), (0, 1, 0))


class Deeds(DeskCase):
    def test_each_deed(self):
        desk = set_up()
        wanted = {
            ("swapped", "mark", "row"): boards.swapped_by(MARKED, (0, 1, 0)),
            ("swapped", "two", "none"): TWO,
            ("negative", "mark"): boards.negative(MARKED),
            ("turned", "mark"): boards.turned(MARKED),
            ("table", "mark"): THREE,
            ("unit", "mark"): units(THREE),
            ("beside", "mark", "two"): boards.beside(MARKED, TWO),
            ("beside", "two", "two"): boards.beside(TWO, TWO),
        }
        for deed, told in wanted.items():
            self.assertIsNone(desk.make("new", deed))
            self.assertEqual(desk.board_named("new"), told)
        for deed, told in {("behind", "row", "row"): (0, 1, 0, 0, 1, 0), ("behind", "row", "none"): (0, 1, 0),
                           ("behind", "none", "none"): (), ("back", "row"): (0, 1, 0)}.items():
            self.assertIsNone(desk.make(name="new", deed=deed))
            self.assertEqual(desk.row_named("new"), told)
        desk.note("row", (0, 1, 2))
        desk.make("new", ("back", "row"))
        self.assertEqual(desk.row_named("new"), (2, 1, 0))
        self.assertEqual(len(desk), 4 + 8 + 4 + 2)

    def test_onto_a_name_that_is_read(self):
        desk = set_up()
        desk.make("two", ("beside", "two", "two"))
        self.assertEqual(desk.board_named("two"), boards.beside(TWO, TWO))
        desk.make("two", ("swapped", "two", "row"))
        self.assertEqual(desk.board_named("two"), boards.swapped_by(boards.beside(TWO, TWO), (0, 1, 0)))
        desk.make("row", ("behind", "row", "row"))
        self.assertEqual(desk.row_named("row"), (0, 1, 0) * 2)
        desk.make("row", ("negative", "mark"))
        self.assertEqual(desk.board_named("row"), boards.negative(MARKED))
        desk.make("mark", ("back", "none"))
        self.assertEqual(desk.row_named("mark"), ())
        for _ in range(5):
            desk.undo()
        self.assertEqual(told_by(desk), told_by(set_up()))

    def test_deeds_in_a_row(self):
        desk = Desk()
        desk.put("b", with_marks(((0, 4), (-4, 0)), (4, -4)))
        desk.note("r", (0, 1, 0, 1, 0, 1))
        board = desk.board_named("b")
        for _ in range(3):
            desk.make("b", ("beside", "b", "b"))
            desk.make("b", ("swapped", "b", "r"))
            board = boards.swapped_by(boards.beside(board, board), (0, 1) * 3)
        self.assertEqual(boards.size(board), (16, 8))
        self.assertGreater(max(max(row) for row in board), 10 ** 4)
        self.assertEqual(desk.board_named("b"), board)
        self.assertEqual(readers.read_board(desk.order("show b")), board)


class Forks(DeskCase):
    def test_branch_and_switch(self):
        desk = set_up()
        self.assertIsNone(desk.branch(name="side"))
        self.assertEqual((desk.fork, desk.forks()), ("main", ["main", "side"]))
        desk.put("late", LONE)
        self.assertIsNone(desk.switch(name="side"))
        self.assertEqual((desk.fork, desk.names()), ("side", ["mark", "none", "row", "two"]))
        desk.drop("two")
        desk.note("mark", (7,))
        desk.note("side", (1,))
        desk.switch("main")
        self.assertEqual(desk.names(), ["late", "mark", "none", "row", "two"])
        self.assertEqual(desk.board_named("mark"), MARKED)
        desk.switch("side")
        self.assertEqual(desk.names(), ["mark", "none", "row", "side"])
        self.assertEqual(desk.row_named("mark"), (7,))
        self.fails(UnknownName, "late", desk.board_named, "late")

    def test_a_name_and_a_fork_called_alike(self):
        desk = Desk()
        desk.put("main", TWO)
        desk.branch("two")
        desk.put("two", LONE)
        desk.switch("two")
        self.assertEqual((desk.names(), desk.forks()), (["main"], ["main", "two"]))
        self.keeps(desk, UnknownName, "two", desk.drop, "two")
        self.keeps(desk, DoubleName, "two", desk.branch, "two")

    def test_a_switch_to_the_open_fork_counts(self):
        desk = Desk()
        desk.switch("main")
        self.assertEqual(len(desk), 1)
        desk.undo()
        self.assertEqual(len(desk), 0)


class Undo(DeskCase):
    def test_each_call_over_all_forks(self):
        desk = Desk()
        calls = [
            lambda: desk.put("b", MARKED), lambda: desk.note("r", (0, 1)), lambda: desk.branch("side"),
            lambda: desk.make("s", ("swapped", "b", "r")), lambda: desk.switch("side"), lambda: desk.drop("b"),
            lambda: desk.order("branch deep"), lambda: desk.order("switch deep"), lambda: desk.order("note r 5 5"),
            lambda: desk.put("b", MARKED), lambda: desk.put("b", MARKED), lambda: desk.switch("main"),
            lambda: desk.order("drop s"), lambda: desk.order("unit b b"), lambda: desk.switch("side"),
            lambda: desk.order("put q 0"), lambda: desk.switch("side"),
        ]

        def all_of_it():
            return told_by(desk), {name: sorted(names.items()) for name, names in desk._forks.items()}

        states = [all_of_it()]
        for call in calls:
            self.assertIn(call(), (None, "done"))
            states.append(all_of_it())
            self.assertEqual(len(desk), len(states) - 1)
        for wanted in reversed(states[:-1]):
            self.assertIsNone(desk.undo())
            self.assertEqual(all_of_it(), wanted)
        self.fails(NothingToUndo, 0, desk.undo)
        self.fails(NothingToUndo, 0, desk.order, "undo")
        # What is done behind an undo stands in its place.
        calls[0]()
        desk.order("undo")
        calls[1]()
        self.assertEqual((desk.names(), len(desk)), (["r"], 1))

    def test_what_raises_is_not_counted(self):
        desk = set_up()
        for function, told in [(desk.put, ("X", TWO)), (desk.put, ("x", ((1,),))), (desk.note, ("x", (-1,))),
                               (desk.make, ("x", ("table", "row"))), (desk.drop, ("x",)), (desk.branch, ("main",)),
                               (desk.switch, ("two",)), (desk.order, ("drop x",)), (desk.order, ("nothing",))]:
            with self.assertRaises(ValueError):
                function(*told)
        self.assertEqual(told_by(desk), told_by(set_up()))
        desk.undo()
        self.assertEqual(desk.names(), ["mark", "row", "two"])

    def test_questions_are_not_counted(self):
        desk = set_up()
        for text in ["show two", "names", "forks", "hand two row", "lead two row none", "endless two", "types two", "same two"]:
            desk.order(text)
        self.assertEqual(len(desk), 4)


class Questions(DeskCase):
    def test_by_the_functions(self):
        desk = set_up()
        desk.note("other", (1, 0))
        self.assertEqual(desk.hand("mark", "row"), hands.hand_by(MARKED, (0, 1, 0)))
        self.assertEqual(desk.hand(board="two", row="none"), hands.first_hand(TWO))
        self.assertIs(desk.lead_alike("two", "row", "other"), True)
        self.assertIs(desk.lead_alike(board="mark", one="row", other="none"), False)
        self.assertEqual(desk.same_as("two"), [])
        for name, board in [("a", LONE), ("b", B2), ("c", blocks(F4, D4, A4)), ("d", DOUBLE), ("e", MARKOV), ("f", APART)]:
            desk.put(name, board)
            self.assertIs(desk.is_endless(name), ends.is_endless(board))
            if ends.is_endless(board):
                with self.assertRaises(Endless) as caught:
                    desk.types(name)
                self.assertEqual(caught.exception.value, ends.endless_row(board))
            else:
                self.assertEqual(desk.types(name=name), ends.types(board))
        self.assertIs(desk.is_endless(name="d"), True)
        for seed in range(5):
            desk.note("r", random_row(seed, 3, 4))
            self.assertEqual(desk.lead_alike("mark", "r", "row"), books.lead_alike(MARKED, desk.row_named("r"), (0, 1, 0)))

    def test_boards_of_more_places(self):
        desk = Desk()
        desk.put("b", with_marks(D4, (1, 0, 0, 0)))
        desk.put("g", G2)
        desk.make("b", ("beside", "b", "g"))
        desk.make("b", ("beside", "b", "g"))
        desk.note("r", (0, 4, 7))
        board = desk.board_named("b")
        self.assertEqual(desk.types("b"), [("D", 4), ("G", 2), ("G", 2)])
        self.assertIs(desk.is_endless("b"), False)
        self.assertEqual(desk.hand("b", "r"), hands.hand_by(board, (0, 4, 7)))
        self.assertEqual(desk.order("types b"), "D4 G2 G2")
        self.assertEqual(readers.read_hand(desk.order("hand b r")), hands.hand_by(board, (0, 4, 7)))

    def test_same_as(self):
        desk = Desk()
        desk.put("b", TWO)
        desk.put("c", ((0, 1), (-1, 0)))
        desk.put("a", units(TWO))
        desk.make("z", ("table", "a"))
        desk.note("r", ())
        desk.note("s", (0,))
        desk.make("q", ("behind", "r", "r"))
        self.assertEqual([desk.same_as(name) for name in "bcazrsq"],
                         [["c", "z"], ["b", "z"], [], ["b", "c"], ["q"], [], ["r"]])
        self.assertEqual(desk.order("same b"), "c z")
        desk.branch("f")
        desk.switch("f")
        desk.drop("c")
        self.assertEqual(desk.same_as(name="b"), ["z"])


class Order(DeskCase):
    def test_each_sentence(self):
        desk = Desk()
        for text, answer in [
            ("names", "none"), ("forks", "main"), ("put t 0 1 ; -1 0", "done"), ("note r 0 1 0", "done"), ("note e -", "done"),
            ("show t", "0 1 ; -1 0"), ("show r", "0 1 0"), ("show e", "-"), ("swapped u t r", "done"), ("show u", "0 -1 ; 1 0"),
            ("negative n u", "done"), ("show n", "0 1 ; -1 0"), ("same t", "n"), ("same u", "none"), ("same e", "none"),
            ("unit m t", "done"), ("show m", "0 1 ; -1 0 ; 1 0 ; 0 1"), ("turned o u", "done"), ("show o", "0 -1 ; 1 0"),
            ("table p m", "done"), ("same p", "n t"), ("beside q t u", "done"), ("show q", "0 1 0 0 ; -1 0 0 0 ; 0 0 0 -1 ; 0 0 1 0"),
            ("behind rr r r", "done"), ("show rr", "0 1 0 0 1 0"), ("note s 1 0", "done"), ("back b s", "done"),
            ("show b", "0 1"), ("lead t r s", "yes"), ("lead t r e", "no"), ("lead t rr e", "yes"), ("endless t", "no"),
            ("types t", "A2"), ("types q", "A2 A2"), ("hand t e", "{1 z0 , 1 z1} 0 1 ; -1 0"),
            ("hand t b", texts.show_hand(hands.hand_by(TWO, (0, 1)))), ("put d 0 2 ; -2 0", "done"), ("endless d", "yes"),
            ("branch side", "done"), ("forks", "main side"), ("drop d", "done"), ("switch side", "done"), ("endless d", "yes"),
            ("names", "b d e m n o p q r rr s t u"), ("undo", "done"), ("names", "b e m n o p q r rr s t u"),
            ("put types 0", "done"), ("show types", "0"), ("types types", "A1"), ("branch undo", "done"), ("note put 3", "done"),
            ("show put", "3"), ("forks", "main side undo"),
        ]:
            self.assertEqual(desk.order(text), answer, text)
        self.assertEqual(desk.order(text="names"), "b e m n o p put q r rr s t types u")
        self.assertEqual(desk.fork, "main")

    def test_unreadable(self):
        desk = set_up()
        for text in ["", " ", "nothing", "nothing two", "Names", "names ", " names", "names two", "forks x", "undo x", "undo ",
                     "show", "show ", "show two row", "show  two", "show Two", "show abcdefghi", "show a1", "show two\n",
                     "show\ttwo", "drop", "drop two row", "drop 2", "branch", "branch a b", "branch A", "switch", "switch x y",
                     "switch a-b", "put", "put x", "put x ", "put x -", "put x 1", "put x 0 1 ; 1 0", "put X 0", "put x  0",
                     "put  x 0", "put x 0 ", "put x 00", "put two two", "put abcdefghi 0", "put x 0 1;-1 0", f"put x 0 ; {HUGE}",
                     "note", "note x", "note x ", "note x -1", "note x 0  1", "note x 0 ", "note X -", "note x --", "note x row",
                     "note x 01", f"note x {HUGE}", "note x 0 ; 1", "note  x -", "note abcdefghi 0",
                     "swapped new two", "swapped new two row row", "swapped new two 0", "swapped new two -", "negative new",
                     "negative new two two", "negative new 0", "turned new", "table new", "unit new", "beside new two",
                     "behind new row", "back new", "back row", "back new row row", "hand two", "hand two row row", "hand two 0",
                     "lead two row", "lead two row none row", "endless", "endless two two", "types", "types two row", "same",
                     "same two two", "NAMES", "put\tx 0", "names\n", "behind new row -", "is_endless two", "lead_alike two row row"]:
            self.keeps(desk, Unreadable, text, desk.order, text)
            self.keeps(desk, Unreadable, text, desk.order, text=text)

    def test_errors_of_the_methods(self):
        desk = set_up()
        desk.put("d", DOUBLE)
        desk.note("far", (2,))
        for text, error, value in [
            ("show x", UnknownName, "x"), ("drop x", UnknownName, "x"), ("switch two", UnknownName, "two"),
            ("branch main", DoubleName, "main"), ("swapped n x y", UnknownName, "x"), ("swapped n two y", UnknownName, "y"),
            ("swapped n row x", UnknownName, "x"), ("swapped n row two", WrongKind, "row"), ("swapped n two two", WrongKind, "two"),
            ("beside n row none", WrongKind, "row"), ("beside n two none", WrongKind, "none"), ("back n two", WrongKind, "two"),
            ("behind n row two", WrongKind, "two"), ("unit n row", WrongKind, "row"), ("hand row two", WrongKind, "row"),
            ("hand two two", WrongKind, "two"), ("hand row x", UnknownName, "x"), ("lead two row x", UnknownName, "x"),
            ("lead two row two", WrongKind, "two"), ("endless row", WrongKind, "row"), ("types row", WrongKind, "row"),
            ("types x", UnknownName, "x"), ("same x", UnknownName, "x"), ("swapped n two far", InvalidRow, (2,)),
            ("hand two far", InvalidRow, (2,)), ("lead two far row", InvalidRow, (2,)), ("lead two row far", InvalidRow, (2,)),
            ("types d", Endless, ()),
        ]:
            before = told_by(desk)
            with self.assertRaises(ValueError) as caught:
                desk.order(text)
            self.assertIs(type(caught.exception), error, text)
            self.assertEqual(caught.exception.value, value, text)
            self.assertEqual(told_by(desk), before)


class Errors(DeskCase):
    def test_names(self):
        desk = set_up()
        for wrong in NO_NAMES:
            self.keeps(desk, InvalidName, wrong, desk.put, wrong, ((1,),))
            self.keeps(desk, InvalidName, wrong, desk.note, wrong, (-1,))
            self.keeps(desk, InvalidName, wrong, desk.make, wrong, ("table", "nothing"))
            self.keeps(desk, InvalidName, wrong, desk.branch, wrong)
            self.keeps(desk, InvalidName, wrong, desk.put, name=wrong, board=TWO)
            self.keeps(desk, UnknownName, wrong, desk.drop, wrong)
            self.keeps(desk, UnknownName, wrong, desk.switch, wrong)
            self.keeps(desk, UnknownName, wrong, desk.board_named, wrong)
            self.keeps(desk, UnknownName, wrong, desk.row_named, wrong)
        for name in ("a", "z", "abcdefgh", "main", "two"):
            desk.put(name, TWO)
        self.keeps(desk, DoubleName, "main", desk.branch, "main")

    def test_boards_and_rows(self):
        desk = set_up()
        for wrong in WRONG_BOARDS:
            self.keeps(desk, InvalidBoard, wrong, desk.put, "x", wrong)
            self.keeps(desk, InvalidBoard, wrong, desk.put, name="two", board=wrong)
        for wrong in [(-1,), (0, 1, -2), (HUGE, -HUGE)]:
            self.keeps(desk, InvalidRow, wrong, desk.note, "x", wrong)
            self.keeps(desk, InvalidRow, wrong, desk.note, name="row", row=wrong)

    def test_deeds(self):
        desk = set_up()
        for deed, error, wrong in [
            (("swapped", "x", "y"), UnknownName, "x"), (("swapped", "two", "y"), UnknownName, "y"),
            (("swapped", "row", "y"), UnknownName, "y"), (("swapped", "row", "two"), WrongKind, "row"),
            (("swapped", "two", "mark"), WrongKind, "mark"), (("negative", "row"), WrongKind, "row"),
            (("negative", "x"), UnknownName, "x"), (("turned", "none"), WrongKind, "none"), (("table", "x"), UnknownName, "x"),
            (("unit", "row"), WrongKind, "row"), (("beside", "row", "x"), UnknownName, "x"),
            (("beside", "none", "row"), WrongKind, "none"), (("beside", "two", "row"), WrongKind, "row"),
            (("behind", "two", "mark"), WrongKind, "two"), (("behind", "row", "mark"), WrongKind, "mark"),
            (("behind", "two", "x"), UnknownName, "x"), (("back", "two"), WrongKind, "two"), (("back", "x"), UnknownName, "x"),
        ]:
            self.keeps(desk, error, wrong, desk.make, "new", deed)
            self.keeps(desk, error, wrong, desk.make, name="two", deed=deed)
            self.keeps(desk, InvalidName, "New", desk.make, "New", deed)

    def test_rows_of_deeds_are_the_row_itself(self):
        desk = set_up()
        for wrong in [(2,), (0, 1, 2), (0, HUGE, 5)]:
            desk.note("far", wrong)
            self.keeps(desk, InvalidRow, wrong, desk.make, "new", ("swapped", "two", "far"))
            self.keeps(desk, InvalidRow, wrong, desk.hand, "two", "far")
            self.keeps(desk, InvalidRow, wrong, desk.lead_alike, "two", "far", "row")
            self.keeps(desk, InvalidRow, wrong, desk.lead_alike, "two", "row", "far")
        desk.note("more", (7,))
        with self.assertRaises(InvalidRow) as caught:
            desk.lead_alike("two", "far", "more")
        self.assertEqual(caught.exception.value, (0, HUGE, 5))

    def test_questions(self):
        desk = set_up()
        for function, told, error, wrong in [
            (desk.hand, ("row", "x"), UnknownName, "x"), (desk.hand, ("x", "y"), UnknownName, "x"),
            (desk.hand, ("row", "two"), WrongKind, "row"), (desk.hand, ("two", "two"), WrongKind, "two"),
            (desk.lead_alike, ("row", "two", "x"), UnknownName, "x"), (desk.lead_alike, ("row", "two", "two"), WrongKind, "row"),
            (desk.lead_alike, ("two", "row", "mark"), WrongKind, "mark"), (desk.is_endless, ("row",), WrongKind, "row"),
            (desk.is_endless, ("x",), UnknownName, "x"), (desk.types, ("none",), WrongKind, "none"),
            (desk.types, ("x",), UnknownName, "x"), (desk.same_as, ("x",), UnknownName, "x"),
            (desk.board_named, ("row",), WrongKind, "row"), (desk.row_named, ("two",), WrongKind, "two"),
            (desk.board_named, ("x",), UnknownName, "x"), (desk.row_named, ("main",), UnknownName, "main"),
        ]:
            self.keeps(desk, error, wrong, function, *told)


class Many(DeskCase):
    def test_three_hundred_calls(self):
        desk, chance = Desk(), random.Random(8)
        desk.put("b", with_marks(A4, (1, 2, 3, 4)))
        desk.note("r", (0, 1, 2, 3))
        states = [told_by(desk)]
        while len(desk) < 300:
            kind = chance.randrange(6)
            name = chance.choice("bcdefghijklmnopq")
            try:
                if kind == 0:
                    desk.put(name, chance.choice((TWO, MARKED, A4)))
                elif kind == 1:
                    desk.note(name, random_row(len(desk), 4, 3))
                elif kind == 2:
                    desk.make(name, ("swapped", chance.choice(desk.names()), chance.choice(desk.names())))
                elif kind == 3 and len(desk.names()) > 5:
                    desk.drop(name)
                elif kind == 4:
                    desk.branch(name + chance.choice("abcdefgh"))
                else:
                    desk.switch(chance.choice(desk.forks()))
            except ValueError:
                self.assertEqual(told_by(desk), states[-1])
                continue
            states.append(told_by(desk))
        self.assertEqual(len(states), 299)
        for wanted in reversed(states[:-1]):
            desk.undo()
            self.assertEqual(told_by(desk), wanted)


if __name__ == "__main__":
    unittest.main()

"""neverhalves/texts.py and neverhalves/readers.py: their sections, and that each text is read back."""
import random
import unittest

from helping import (
    APART, B3, D4, DOUBLE, G2, LONE, MARKS, THREE, TWO, Case, blocks, random_row, random_sum, units, with_marks,
)
from neverhalves.belts import belt_hand
from neverhalves.ends import all_sums
from neverhalves.errors import InvalidNumber, Unreadable
from neverhalves.hands import first_hand, hand_by, sum_by
from neverhalves.longrows import values
from neverhalves.readers import read_board, read_hand, read_row, read_sum
from neverhalves.sums import letter, value
from neverhalves.texts import show_board, show_hand, show_numbers, show_row, show_sum

HUGE = 10 ** 30
MOST = HUGE - 1
MARKED = with_marks(THREE, (1, -2, 0), (0, 3, 1))
BOARDS = [LONE, TWO, APART, G2, THREE, B3, D4, MARKED, units(TWO), with_marks(LONE, (5,), (-90,)), DOUBLE,
          with_marks(D4, *MARKS), blocks(TWO, LONE), ((0, MOST), (-1, 0)), with_marks(LONE, (-MOST,))]
# The texts of all kinds that are near to each other.
SIGNS = [chr(sign) for sign in range(32, 127)] + ["\n", "\t"]


def integer_plainly(text):
    """An integer without leading zeros, None if the text is none."""
    body = text[1:] if text[:1] == "-" else text
    if not body or any(sign not in "0123456789" for sign in body) or len(body) > 30:
        return None
    if (body[0] == "0" and len(body) > 1) or text == "-0":
        return None
    return int(text)


def changed(text, chance):
    """The text with a sign more, less or exchanged."""
    at = chance.randrange(len(text) + 1)
    sign = chance.choice(SIGNS)
    return chance.choice([text[:at] + sign + text[at:], text[:at] + text[at + 1:], text[:at] + sign + text[at + 1:]])


class Rows(Case):
    def test_show(self):
        self.assertEqual(self.both_ways(show_row, row=(0, 1)), "0 1")
        self.assertEqual([show_row(()), show_row((7,)), show_row((10, 0, HUGE))], ["-", "7", f"10 0 {HUGE}"])

    def test_read_back(self):
        self.assertEqual(self.both_ways(read_row, text="0 1"), (0, 1))
        self.assertEqual(self.both_ways(read_row, text="-"), ())
        for row in [(), (0,), (12,), (0, 0, 0), (3, 1, 2), (MOST,), (MOST, 0, 5), tuple(range(40))]:
            self.assertEqual(read_row(show_row(row)), row)
            self.assertIs(type(read_row(show_row(row))), tuple)
        for text in ["-", "0", "5 5", "0 10 2", "9" * 30]:
            self.assertEqual(show_row(read_row(text)), text)

    def test_unreadable(self):
        for text in ["", " ", "0 ", " 0", "0  1", "- ", "--", "-0", "-1", "0 -1", "01", "00", "+1", "1,2", "0\t1", "0\n",
                     "1" + "0" * 30, "0 " + "9" * 31, "a", "1 a", "0 - 1", "- 1", "1_0", "0x1", "1.0", "~", "1 ; 2", "\n",
                     "\t", "- -", "1e3", "(0,)", "{0}", "0;1", "^", "z0"]:
            self.fails(Unreadable, text, read_row, text)
            self.fails(Unreadable, text, read_row, text=text)


class Boards(Case):
    def test_show(self):
        self.assertEqual(self.both_ways(show_board, board=TWO), "0 1 ; -1 0")
        self.assertEqual([show_board(LONE), show_board(MARKED)], ["0", "0 1 0 ; -1 0 1 ; 0 -1 0 ; 1 -2 0 ; 0 3 1"])

    def test_read_back(self):
        self.assertEqual(self.both_ways(read_board, text="0 1 ; -1 0"), TWO)
        for board in BOARDS:
            self.assertEqual(read_board(show_board(board)), board)
            self.assertEqual(show_board(read_board(show_board(board))), show_board(board))

    def test_unreadable(self):
        for text in ["", " ", "-", "1", "0 1", "0 1 ; 1 0", "0 1 ; -1 0 ", " 0 1 ; -1 0", "0 1;-1 0", "0 1 ; -1", "0 ; 0 0",
                     "0 1 ;  -1 0", "0 1 , -1 0", "0 1 ; -1 0 ;", "0 1 ; -1 0 ; ", "0 1 ; -1 -0", "00 1 ; -1 0",
                     "0 +1 ; -1 0", "0 01 ; -1 0", "0 1\n; -1 0", "0 1 ; -1 0\n", "0\t1 ; -1 0", "0 2 ; 0 0", "0 1 ; -1 0 ; 1",
                     "0 1 ; -1 0 ; 1 2 3", f"0 {HUGE} ; -1 0", f"0 1 ; -{HUGE} 0", "0 a ; -1 0", "0 1 ; - 1 0", "0; 0",
                     "0  ; 0", "0 ; ", "; 0", "0 1 ; -1 0 ; -", "{0}"]:
            self.fails(Unreadable, text, read_board, text)
            self.fails(Unreadable, text, read_board, text=text)


class Sums(Case):
    def test_show(self):
        self.assertEqual(self.both_ways(show_sum, told=sum_by(TWO, (0,))), "1 z0^-1 + 1 z0^-1 z1")
        self.assertEqual(show_sum(()), "0")
        self.assertEqual(show_sum((((0, 0), -7),)), "-7")
        self.assertEqual(show_sum((((-1, 1, 40), -1),)), "-1 z0^-1 z1 z2^40")
        self.assertEqual(show_sum((((0,), 3), ((1,), -1), ((2,), HUGE))), f"3 + -1 z0 + {HUGE} z0^2")
        self.assertEqual(show_sum(letter(11, 12)), "1 z11")

    def test_read_back(self):
        self.assertEqual(self.both_ways(read_sum, text="1 z0^-1 + 1 z0^-1 z1", many=2), sum_by(TWO, (0,)))
        self.assertEqual(self.both_ways(read_sum, text="0", many=3), ())
        self.assertEqual(read_sum("5", 2), (((0, 0), 5),))
        self.assertEqual(read_sum("-1", 1), (((0,), -1),))
        self.assertEqual(read_sum("-2 z1 + 3 z0", 2), (((0, 1), -2), ((1, 0), 3)))
        self.assertEqual(read_sum("1 z3^" + "9" * 30, 4), (((0, 0, 0, MOST), 1),))
        for seed in range(30):
            many = 1 + seed % 13
            told = random_sum(seed, 1 + min(seed, 4 * many), many, 3, 29)
            self.assertEqual(read_sum(show_sum(told), many), told)
            self.assertEqual(show_sum(read_sum(show_sum(told), many)), show_sum(told))
            twice = show_sum(told + told)
            self.fails(Unreadable, twice, read_sum, twice, many)
        for board in BOARDS[:8]:
            for told in all_sums(board):
                self.assertEqual(read_sum(show_sum(told), len(board)), told)
        told = letter(11, 12)
        self.assertEqual(read_sum(show_sum(told), 12), told)
        self.assertEqual(read_sum(show_sum(told), 13), letter(11, 13))
        self.assertEqual(read_sum("0", 1), ())

    def test_letters(self):
        for many in (1, 2, 10, 11, 12):
            text = f"1 z{many - 1}"
            self.assertEqual(read_sum(text, many), letter(many - 1, many))
            far = f"1 z{many}"
            self.fails(Unreadable, far, read_sum, far, many)
            if many > 1:
                self.fails(Unreadable, text, read_sum, text, many - 1)

    def test_unreadable(self):
        for text in ["", " ", "-", "-0", "00", "+1", "01", "1 ", " 1", "1 +", "+ 1", "1 + ", " + 1", "1 + 1", "1 + 2", "0 z0",
                     "0 + 1 z0", "1 z0 + 0", "z0", "z0 z1", "1z0", "1 z0^1", "1 z0^0", "1 z0^-0", "1 z0^+2", "1 z0^02", "1 z0^",
                     "1 z0^ 2", "1 z0 ^2", "1 z0^2^2", "1 z00", "1 z-1", "1 z-0", "1 z", "1 z+1", "1 z0 z0", "1 z1 z0",
                     "1 z0  z1", "1 z2", "1 z02", "1 y0", "1 Z0", "1 z0 + 1", "1 z0 + 1 z1", "1 z0 + 1 z0", "2 z0 + -2 z0",
                     "1 z1 +1 z0", "1 z1+ 1 z0", "1 z1 - 1 z0", "1 z1  + 1 z0", "1 z1 +  1 z0", "1 z1 , 1 z0", "1 z1\n+ 1 z0",
                     "1 z0\n", "1\tz0", "1 z0*z1", "1/2", "1 z0^1/2", f"{HUGE}", f"-{HUGE} z0", f"1 z0^{HUGE}",
                     f"1 z0^-{HUGE}", f"1 z{HUGE}", "1 z0^--1", "--1", "- 1", "1 0", "1 z0 2", "(1)", "1 z^2", "1 ^2", "0 ",
                     " 0", "0 + 0", "0 z1"]:
            self.fails(Unreadable, text, read_sum, text, 2)
            self.fails(Unreadable, text, read_sum, text=text, many=2)

    def test_many(self):
        for wrong in (0, -1, -HUGE):
            for text in ("0", "1", "", "1 z0", "nothing"):
                self.fails(InvalidNumber, wrong, read_sum, text, wrong)
                self.fails(InvalidNumber, wrong, read_sum, text=text, many=wrong)


class Hands(Case):
    def test_show(self):
        self.assertEqual(self.both_ways(show_hand, hand=first_hand(TWO)), "{1 z0 , 1 z1} 0 1 ; -1 0")
        self.assertEqual(show_hand(hand_by(LONE, (0,))), "{2 z0^-1} 0")

    def test_read_back(self):
        self.assertEqual(self.both_ways(read_hand, text="{1 z0 , 1 z1} 0 1 ; -1 0"), first_hand(TWO))
        for board in BOARDS[:13]:
            for seed in range(3):
                hand = hand_by(board, random_row(seed, len(board[0]), 1 + seed))
                self.assertEqual(read_hand(show_hand(hand)), hand)
                self.assertEqual(show_hand(read_hand(show_hand(hand))), show_hand(hand))
        hand = belt_hand(APART, 2)
        self.assertEqual(read_hand(show_hand(hand)), hand)
        # A hand need not come of a row.
        hand = ((letter(1, 2), (((0, 0), -5),)), TWO)
        self.assertEqual(read_hand(show_hand(hand)), hand)

    def test_unreadable(self):
        for text in ["", "{", "}", "{}", "{} ", "{} 0", "{1 z0}", "{1 z0} ", "{1 z0}0", "{1 z0}  0", " {1 z0} 0", "{1 z0} 0 ",
                     "{ 1 z0} 0", "{1 z0 } 0", "1 z0} 0", "{1 z0 0", "(1 z0) 0", "{0} 0", "{1 z1} 0", "{1 z0} 1", "{1 z0} 0\n",
                     "{1 z0 , 1 z1} 0", "{1 z0} 0 1 ; -1 0", "{1 z0 , 1 z1 , 1 z0} 0 1 ; -1 0", "{1 z0,1 z1} 0 1 ; -1 0",
                     "{1 z0 , 1 z1} 0 1 ; 1 0", "{1 z0 , 0} 0 1 ; -1 0", "{1 z0 , } 0 1 ; -1 0", "{1 z0  , 1 z1} 0 1 ; -1 0",
                     "{1 z0 ; 1 z1} 0 1 ; -1 0", "{1 z0 , 1 z2} 0 1 ; -1 0", "{{1 z0 , 1 z1}} 0 1 ; -1 0",
                     "{1 z0 , 1 z1} 0 1 ; -1 0 ; 1", "{1 z0 , 1 z1} {1 z0 , 1 z1} 0 1 ; -1 0", "[1 z0] 0", "{1 z0} -", "{-} 0",
                     "{1 z0}\t0", "{1 z0 + 1 z0} 0"]:
            self.fails(Unreadable, text, read_hand, text)
            self.fails(Unreadable, text, read_hand, text=text)


class Numbers(Case):
    def test_show(self):
        self.assertEqual(self.both_ways(show_numbers, numbers=[(1, 2), (3, 1)]), "1/2 3")
        self.assertEqual([show_numbers([]), show_numbers([(0, 1)]), show_numbers([(-7, 3), (-7, 1), (10, 11)])],
                         ["-", "0", "-7/3 -7 10/11"])
        self.assertEqual(show_numbers(values(TWO, (0, 1), [1, 2])), "3 2")
        self.assertEqual(show_numbers([value(sum_by(TWO, (0,)), [2, 4])]), "5/2")
        long = 10 ** 3999
        self.assertEqual(len(show_numbers([(-long, 1)])), 4001)


class Near(Case):
    """Texts that are nearly right: what is read is shown as the very same text."""

    def near(self, text, show, read, *more):
        chance = random.Random(text)
        for _ in range(400):
            told = changed(text, chance)
            try:
                result = read(told, *more)
            except Unreadable as error:
                self.assertIs(error.value, told)
            else:
                self.assertEqual(show(result), told)

    def test_near(self):
        for row in [(), (0,), (1, 0, 12), (10, 20, 30)]:
            self.near(show_row(row), show_row, read_row)
        for board in [LONE, TWO, G2, MARKED]:
            self.near(show_board(board), show_board, read_board)
        for told in [(), (((0, 0), -1),), sum_by(TWO, (0,)), (((-2, 1), 10), ((0, 3), -4))]:
            self.near(show_sum(told), show_sum, read_sum, 2)
        for hand in [first_hand(TWO), hand_by(G2, (0, 1)), hand_by(with_marks(LONE, (2,)), (0,))]:
            self.near(show_hand(hand), show_hand, read_hand)

    def test_a_blank_more_or_less(self):
        for text, read in [("0 1 12", read_row), ("0 1 ; -1 0", read_board), ("{1 z0 , 1 z1} 0 1 ; -1 0", read_hand)]:
            for at in range(len(text) + 1):
                more = text[:at] + " " + text[at:]
                # A blank within an integer of two figures makes two of it.
                if not (text == "0 1 12" and at == 5):
                    self.fails(Unreadable, more, read, more)
                if text[at:at + 1] == " " and text != "0 1 12":
                    less = text[:at] + text[at + 1:]
                    if less not in ("01 ; -1 0", "0 1 ; -10"):
                        self.fails(Unreadable, less, read, less)
        for less in ("01 ; -1 0", "0 1 ; -10"):
            self.fails(Unreadable, less, read_board, less)

    def test_integers(self):
        chance = random.Random(1)
        for _ in range(3000):
            text = "".join(chance.choice("0012-+ _9") for _ in range(chance.randint(1, 4)))
            wanted = integer_plainly(text)
            board = f"0 ; {text}"
            if wanted is None and not all(integer_plainly(word) is not None for word in text.split(" ")):
                self.fails(Unreadable, board, read_board, board)
            elif wanted is not None:
                self.assertEqual(read_board(board), ((0,), (wanted,)))


if __name__ == "__main__":
    unittest.main()

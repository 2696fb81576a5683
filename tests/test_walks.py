"""What the quick ways of working things out rest on: tried for all tables of at most four places with an end."""
import functools
import itertools
import math
import random
import unittest

from helping import (
    A4, B2, B3, C3, D4, F4, FINITE, G2, LONE, THREE, TWO, Case, blocks, multiplied, random_row, random_sum, with_marks,
)
from neverhalves import boards, ends, hands, heights, kinds, packs, poles, steps, terms, walks, ways, within

ALONE = [table for table, _, _, _ in FINITE]


def tables_with_an_end():
    """All tables of at most four places with finitely many hands, by swaps and other numbers of the places."""
    starts = []
    for many in range(1, 5):
        for parts in itertools.combinations_with_replacement(ALONE, many):
            if sum(len(part) for part in parts) <= 4:
                starts.append(blocks(*parts))
                starts.append(boards.turned(blocks(*parts)))
    known = set(starts)
    while starts:
        table = starts.pop()
        many = len(table)
        orders = [tuple(range(at)) + (at + 1, at) + tuple(range(at + 2, many)) for at in range(many - 1)]
        for further in [boards.swapped(table, at) for at in range(many)] + [boards.renamed(table, one) for one in orders]:
            if further not in known:
                known.add(further)
                starts.append(further)
    return sorted(known, key=lambda rows: (len(rows), rows))


TABLES = tables_with_an_end()


def numbers_of(key, many):
    """The numbers that a column or a height packs."""
    found = []
    for _ in range(many):
        low = key & ((1 << walks.BITS) - 1)
        low -= (low >> (walks.BITS - 1)) << walks.BITS
        found.append(low)
        key = (key - low) >> walks.BITS
    return tuple(found[::-1])


class Kinds(Case):
    def test_tables_with_an_end(self):
        self.assertEqual(len(TABLES), 2000)
        for table in TABLES:
            self.assertFalse(kinds.is_heavy(table))
            self.assertTrue(all(kinds.minor_of(rows) > 0 for _, rows in kinds.piece_tables(table)))
            self.assertIs(ends.is_endless(table), False)

    def test_all_others(self):
        pairs = [(0, 0)] + [(sign * one, -sign * other) for sign in (1, -1)
                            for one, other in ((1, 1), (1, 2), (2, 1), (1, 3), (3, 1), (2, 2), (1, 4))]
        right = set(TABLES)
        chance = random.Random(1)
        fours = (tuple(chance.choice(pairs) for _ in range(6)) for _ in range(60000))
        for entries in itertools.chain(itertools.product(pairs, repeat=1), itertools.product(pairs, repeat=3), fours):
            many = {1: 2, 3: 3, 6: 4}[len(entries)]
            rows = [[0] * many for _ in range(many)]
            for (at, far), (one, other) in zip(itertools.combinations(range(many), 2), entries):
                rows[at][far], rows[far][at] = one, other
            rows = tuple(map(tuple, rows))
            if boards.is_board(rows):
                self.assertIs(ends.is_endless(rows), rows not in right)
                row = ends.endless_row(rows)
                self.assertEqual(row is None, rows in right)
                if row is not None:
                    self.assertTrue(ends.shows_endless(rows, row))

    def test_first_rows_to_the_end(self):
        for table in (((0, 1, 1), (-1, 0, 1), (-1, -1, 0)), ((0, 1, 0, 1), (-1, 0, 1, 0), (0, -1, 0, 1), (-1, 0, -1, 0))):
            wanted = ways.first_row(table, ways.swaps_of, kinds.is_heavy, None)
            self.assertEqual(ends.endless_row(table), wanted)
            self.assertEqual(kinds.minor_of(table), 0)

    def test_types_by_their_hands(self):
        for table in TABLES[::9]:
            count = len(walks.walked(table).rows)
            self.assertEqual(ends.how_many_hands(table), count)
            if kinds.kinds_of(table) in ([("A", 4)], [("D", 4)]):
                self.assertEqual(ends.types(table), [("D", 4)] if count == 50 else [("A", 4)])

    def test_last_minor(self):
        chance = random.Random(3)
        for _ in range(300):
            many = chance.randint(1, 5)
            square = [[chance.randint(-4, 9) if at != far else chance.randint(1, 20) for far in range(many)]
                      for at in range(many)]
            minors = [heights.determinant([tuple(line[:size]) for line in square[:size]]) for size in range(1, many + 1)]
            wanted = minors[-1] if min(minors) > 0 else 0
            self.assertEqual(kinds.last_minor([list(line) for line in square]), wanted)

    def test_lots(self):
        for table in ALONE + [blocks(TWO, TWO), blocks(LONE, THREE), blocks(LONE, LONE, G2), blocks(B2, TWO)]:
            hands_found = walks.walked(table).hands
            for many in range(len(table) + 1):
                lots = {tuple(sorted(lot)) for hand in hands_found for lot in itertools.combinations(hand, many)}
                self.assertEqual(kinds.lots_of(table)[many], len(lots))


class Walks(Case):
    def test_all_tables(self):
        for table in TABLES:
            many = len(table)
            walk = walks.walked(table)
            self.assertEqual(len(set(walks.depths_of_walk(walk))), len(walk.degrees))
            for height in walk.degrees:
                self.assertLessEqual(max(map(abs, numbers_of(height, many))), walks.MOST_HEIGHT)
                self.assertEqual(math.gcd(*numbers_of(height, many)), 1)
            self.assertEqual(len({tuple(sorted(hand)) for hand in walk.hands}), len(walk.hands))

    def test_rows_heights_columns_and_tables(self):
        for table in ALONE + TABLES[::60]:
            many = len(table)
            walk = walks.walked(table)
            self.assertEqual(walk.rows, sorted(walk.rows, key=lambda row: (len(row), row)))
            for at, row in enumerate(walk.rows):
                self.assertEqual(walk.tables[at], boards.swapped_by(table, row))
                self.assertEqual([numbers_of(walk.degrees[number], many) for number in walk.hands[at]],
                                 heights.heights(table, row))
                told = boards.swapped_by(boards.unit_board(table), row)[many:]
                self.assertEqual([numbers_of(pack, many) for pack in walk.packs[at]], list(zip(*told)))
                for place, link in enumerate(walk.links[at]):
                    mine, its = set(walk.hands[at]), set(walk.hands[link])
                    self.assertEqual(mine - its, {walk.hands[at][place]})
                    self.assertEqual(len(its - mine), 1)

    def test_sums(self):
        for table in [LONE, TWO, B2, G2, THREE, B3, C3, D4, blocks(TWO, LONE)]:
            for rows in ([], [(1, -2, 0, 3), (0, 4, -1, -4)]):
                board = with_marks(table, *[row[:len(table)] for row in rows])
                walk = walks.walked(board)
                sums = packs.sums_of_walk(hands.first_hand(board)[0], board, walk)
                found = walks.depths_of_walk(walk)
                for number, told in enumerate(sums):
                    least = tuple(-low for low in terms.least_of(told)[:len(table)])
                    self.assertEqual(found[number], least)
                for row, hand in list(zip(walk.rows, walk.hands))[::3]:
                    self.assertEqual(hands.hand_by(board, row)[0], tuple(sums[number] for number in hand))

    def test_a_walk_that_stops(self):
        for table in (TWO, THREE, D4, F4):
            for row in ends.all_rows(table)[:40:3]:
                told = heights.heights(table, row)
                self.assertEqual(heights.hand_of_heights(table, told), row)
                self.assertEqual(heights.hand_of_heights(table, told[::-1] + told), row)
            for none in [(5,) + (0,) * (len(table) - 1), (2,) * len(table), (0,) * len(table), (12,) * len(table)]:
                self.assertIsNone(heights.row_to_height(table, none))
                self.assertIsNone(heights.hand_of_heights(table, [tuple([1] + [0] * (len(table) - 1)), none]))


class Steps(Case):
    def put_plainly(self, board, row, told):
        """By the sums of the first hand, told by the letters of the hand behind the row."""
        back = hands.hand_by(boards.swapped_by(board, row), row[::-1])[0]
        letters = [terms.letter_of(at, len(board)) for at in range(len(board[0]), len(board))]
        return terms.put_into(told, list(back) + letters, len(board))

    def test_against_sums_put(self):
        chance = random.Random(7)
        told_none = 0
        for seed in range(400):
            table = chance.choice([LONE, TWO, B2, G2, THREE, B3, C3, A4, ((0, 2), (-2, 0)), ((0, 0), (0, 0)),
                                   ((0, 1, 0), (-1, 0, -1), (0, 1, 0))])
            rows = [tuple(chance.randint(-2, 2) for _ in table) for _ in range(chance.randint(0, 2))]
            board = with_marks(table, *rows)
            row = random_row(seed, len(table), chance.randint(0, 3))
            if len(table) == 1:
                row = row[:1]
            kind = chance.randrange(3)
            if kind == 0 or len(board) == 1:
                told = random_sum(seed, 1 + seed % 5 if len(board) > 1 else 1, len(board), 2, 3)
            elif kind == 1:
                sums = hands.hand_by(board, random_row(seed + 1, len(table), 2))[0]
                told = multiplied(chance.choice(sums), chance.choice(sums))
            else:
                # A multiple of both products, once, is divided by a letter twice or once.
                place = chance.randrange(len(table))
                told = hands.hand_by(board, (place,))[0][place]
                power = tuple(-1 if at == place and seed % 2 else 0 for at in range(len(board)))
                told = multiplied(multiplied(told, ((power, 3),)), random_sum(seed, 2, len(board), 1, 2))
                if not told:
                    continue
            wanted = self.put_plainly(board, row, told)
            told_none += wanted is None
            self.assertEqual(within.written(board, row, told), wanted)
            back = boards.swapped_by(board, row)
            self.assertEqual(within.read_back(back, row[::-1], told), wanted)
            firsts = [place for place in range(len(table)) if self.put_plainly(board, (place,), told) is None]
            self.assertEqual(within.barring(board, told), firsts[0] if firsts else None)
            self.assertIs(within.is_let(board, told), not firsts)
        self.assertGreater(told_none, 80)

    def test_rows_that_come_back_to_a_letter(self):
        told = (((-1, 0, 0), 1), ((0, -1, 2), 5))
        for board in (THREE, ((0, 1, 0), (-1, 0, -1), (0, 1, 0)), ((0, 0, 0),) * 3):
            self.assertEqual(within.written(board, (0, 0), told), told)
            self.assertEqual(within.written(board, (1, 0, 0, 1), told), told)
            for row in [(0, 2), (0, 1, 0), (0, 2, 0), (2, 0, 2), (0, 1, 0, 1), (1, 0, 1, 0)]:
                self.assertEqual(within.written(board, row, told), self.put_plainly(board, row, told))
        # Behind five swaps by turns the letters are those of the first hand, in another order.
        self.assertEqual(within.written(TWO, (0, 1, 0, 1, 0), (((-1, 2), 1),)), (((2, -1), 1),))
        self.assertEqual(within.written(TWO, (0, 1, 0, 1), (((-1, 0), 1),)), (((0, -1), 1),))
        self.assertIsNone(within.written(TWO, (0, 1, 0, 1), (((0, -1), 1),)))
        self.assertIsNone(within.written(TWO, (0, 1, 0), (((-1, 2), 1),)))

    def test_a_place_by_itself(self):
        self.assertEqual(within.written(LONE, (0,), (((-1,), 6), ((2,), 1))), (((-2,), 4), ((1,), 3)))
        self.assertIsNone(within.written(LONE, (0,), (((-1,), 3),)))
        self.assertIsNone(within.written(LONE, (0,), (((-2,), 6),)))
        self.assertEqual(within.written(LONE, (0,), (((-2,), -12),)), (((2,), -3),))

    def test_lines(self):
        self.assertEqual(steps.line_over({0: 1, 1: 2, 2: 1}, 2), [1])
        self.assertEqual(steps.line_over({-1: 1, 2: 1}, 1), [1, -1, 1])
        self.assertIsNone(steps.line_over({-1: 1, 2: 2}, 1))
        self.assertIsNone(steps.line_over({0: 1, 1: 2, 2: 1}, 3))


class Poles(Case):
    def test_roots(self):
        self.assertTrue(all(poles.PRIME % small for small in range(2, 2000)))
        for times in range(1, 12):
            roots = 0
            for number in range(2, 40):
                root = poles.root_of(number, times)
                if root is not None:
                    roots += 1
                    self.assertEqual(pow(root, times, poles.PRIME), number)
            self.assertGreater(roots, 37 if times % 2 else 10)

    def test_inverses(self):
        numbers = [2, 3, 10 ** 17, poles.PRIME - 1, 1]
        for number, inverse in zip(numbers, poles.inverses(numbers)):
            self.assertEqual(number * inverse % poles.PRIME, 1)
        self.assertEqual(poles.inverses([]), [])

    def test_no_pole_where_a_sum_comes(self):
        shown = 0
        for seed in range(300):
            table = (TWO, B2, G2, THREE, B3, ((0, 2), (-2, 0)), C3)[seed % 7]
            board = with_marks(table, *[(seed % 3 - 1, 2, -1)[:len(table)]] * (seed % 2))
            row = random_row(seed, len(table), 2)
            back = hands.hand_by(boards.swapped_by(board, row), row[::-1])[0]
            others = list(back) + [terms.letter_of(at, len(board)) for at in range(len(table), len(board))]
            told = random_sum(seed, 2 + seed % 4, len(board), 2, 2)
            result = terms.put_into(told, others, len(board))
            if poles.shows_pole(told, others):
                shown += 1
                self.assertIsNone(result)
            for one in hands.hand_by(board, random_row(seed + 5, len(table), 3))[0]:
                if len(one) < 20:
                    self.assertIs(poles.shows_pole(one, others), False)
        self.assertGreater(shown, 100)


class Packs(Case):
    def test_quotients(self):
        for seed in range(60):
            one = tuple((powers, abs(own)) for powers, own in random_sum(seed, 1 + seed % 12, 3, 4, 3))
            other = tuple((powers, abs(own)) for powers, own in random_sum(seed + 99, 1 + seed % 7, 3, 4, 3))
            product = multiplied(one, other)
            told = packs.quotient_packed(terms.packed(product, 8), terms.packed(other, 8))
            self.assertEqual(terms.unpacked(told, 3, 8), one)

    def test_swaps_along_a_row(self):
        for table in (TWO, G2, THREE, C3, D4):
            board = with_marks(table, *[row[:len(table)] for row in [(1, -2, 3, 0), (0, 0, 0, 0), (-4, 1, 0, 4)]])
            for seed in range(6):
                row = random_row(seed, len(table), seed)
                one, other = packs.swapped_along(hands.first_hand(board), row), hands.first_hand(board)
                for place in row:
                    other = hands.swapped_hand(other, place)
                self.assertEqual(one, other)
                for place in range(len(table)):
                    self.assertEqual(packs.sum_along(hands.first_hand(board), row, place), other[0][place])


@functools.lru_cache(maxsize=None)
def hand_at(board, row):
    """The hand behind a row, kept."""
    return hands.swapped_hand(hand_at(board, row[:-1]), row[-1]) if row else hands.first_hand(board)


class Ways(Case):
    def test_rows_to_columns(self):
        for table in (TWO, G2, THREE, B3, ((0, 2), (-2, 0)), blocks(TWO, LONE)):
            many = len(table)
            rows = [row for length in range(4) for row in itertools.product(range(many), repeat=length)]
            start = boards.unit_board(table)
            for one in rows[::5]:
                for other in rows[::7]:
                    told = ways.row_to_columns(boards.swapped_by(start, one), boards.swapped_by(start, other))
                    self.assertIsNotNone(hands.same_hands(hand_at(table, one + told), hand_at(table, other)))
                    shorter = [row for row in rows if (len(row), row) < (len(told), told)]
                    self.assertFalse(any(hands.same_hands(hand_at(table, one + row), hand_at(table, other)) is not None
                                         for row in shorter))


if __name__ == "__main__":
    unittest.main()

"""Points 3, 17, 18 and 19: weighed, stillness, and whether a paper is right."""

import copy
import itertools
import unittest
from fractions import Fraction

from echobound import stillness as stillness_module
from echobound.errors import NoMatrix
from echobound.matrices import is_matrix
from echobound.stillness import energy, halving, is_paper, stillness, weighed, worth
from tests.helper import (LONG, Stranger, as_matrix, as_numbers, as_pair, as_pairs, as_rows, asked, chance,
                          check_interface, flipped, less, multiplied, no_fractions, no_lists, no_matrices,
                          other_kinds, rank_of, refusal, refused_at, seen_in, some_basis, some_number, some_rows,
                          squares_by, unit_rows)

HALF = (1, 2)


def noughts(many):
    return [[Fraction(0)] * many for _ in range(many)]


def drawn(rows, middle):
    """F' X F."""
    return multiplied(flipped(rows), multiplied(middle, rows))


def left_of(rows, middle):
    """X less F' X F."""
    return less(middle, drawn(rows, middle))


def symmetric_units(many):
    """Symmetric matrices of which all others are sums."""
    told = []
    for row in range(many):
        for column in range(row, many):
            one = noughts(many)
            one[row][column] = one[column][row] = Fraction(1)
            told.append(one)
    return told


def has_ring(rows):
    """Whether X less F' X F is nought for some symmetric X that isn't."""
    many = len(rows)
    images = [[place for row in left_of(rows, one) for place in row] for one in symmetric_units(many)]
    return rank_of(images) < len(images)


def is_above(rows):
    """Whether all leading determinants are above 0, which is just where a symmetric matrix is above."""
    rows = [list(row) for row in rows]
    for at in range(len(rows)):
        if rows[at][at] <= 0:
            return False
        for row in range(at + 1, len(rows)):
            by = rows[row][at] / rows[at][at]
            rows[row] = [one - by * two for one, two in zip(rows[row], rows[at])]
    return True


def side_by_side(blocks):
    """The blocks along the diagonal, noughts beside them."""
    many = sum(len(block) for block in blocks)
    rows = noughts(many)
    at = 0
    for block in blocks:
        for row, numbers in enumerate(block):
            for column, number in enumerate(numbers):
                rows[at + row][at + column] = Fraction(number)
        at += len(block)
    return rows


def single(number):
    return [[Fraction(number)]]


def turn(one, other):
    return [[Fraction(one), -Fraction(other)], [Fraction(other), Fraction(one)]]


def roots_of(blocks):
    """What the blocks stretch by, as pairs: a number, and a part across it."""
    told = []
    for block in blocks:
        if len(block) == 1:
            told.append((block[0][0], Fraction(0)))
        else:
            told += [(block[0][0], block[1][0]), (block[0][0], -block[1][0])]
    return told


def word_for(blocks):
    """The paper's first word, by what the blocks stretch by."""
    roots = roots_of(blocks)
    for (a, b), (c, d) in itertools.combinations_with_replacement(roots, 2):
        if (a * c - b * d, a * d + b * c) == (1, 0):
            return "ring"
    return "still" if all(a * a + b * b < 1 for a, b in roots) else "loud"


THIRD, FIFTH = Fraction(1, 3), Fraction(1, 5)
SINGLES = [single(number) for number in (0, THIRD, -THIRD, Fraction(1, 2), Fraction(-99, 100), 1, -1, 2, 3, -3,
                                         Fraction(-1, 2), Fraction(101, 100))]
TURNS = [turn(0, THIRD), turn(Fraction(3, 5), Fraction(4, 5)), turn(0, 1), turn(Fraction(1, 2), Fraction(1, 2)),
         turn(1, 1), turn(Fraction(-2, 5), FIFTH), turn(0, 2), turn(Fraction(1, 2), Fraction(-1, 2)),
         turn(Fraction(-5, 13), Fraction(12, 13))]


def some_blocks(dice, many):
    blocks = []
    room = many
    while room:
        block = dice.choice(SINGLES if room == 1 or dice.random() < 0.5 else TURNS)
        blocks.append(block)
        room -= len(block)
    return blocks


class Papers(unittest.TestCase):
    def check_symmetric(self, matrix, many):
        self.assertTrue(is_matrix(matrix))
        self.assertEqual(len(matrix), many)
        self.assertEqual(matrix, [list(column) for column in zip(*matrix)])

    def check_paper(self, rows, paper):
        """A paper is right by its own sums, and is_paper says so."""
        many = len(rows)
        self.assertIs(type(paper), tuple)
        word, matrix = paper[0], paper[1]
        self.check_symmetric(matrix, many)
        weights = as_rows(matrix)
        if word == "ring":
            self.assertEqual(len(paper), 2)
            self.assertTrue(any(any(row) for row in weights))
            self.assertTrue(drawn(rows, weights) == weights)
        else:
            self.assertTrue(left_of(rows, weights) == unit_rows(many))
            self.assertFalse(has_ring(rows))
        if word == "still":
            self.assertEqual(len(paper), 2)
            self.assertTrue(is_above(weights))
        if word == "loud":
            self.assertEqual(len(paper), 3)
            self.assertIs(type(paper[2]), list)
            self.assertEqual(len(paper[2]), many)
            xs = as_numbers(paper[2])
            self.assertEqual(as_pairs(xs), paper[2])
            self.assertTrue(any(xs))
            self.assertLessEqual(squares_by(weights, xs), 0)
        self.assertIn(word, ("still", "loud", "ring"))
        self.assertIs(is_paper(as_matrix(rows), paper), True)

    def check(self, rows):
        paper = asked(self, stillness, as_matrix(rows))
        self.check_paper(rows, paper)
        return paper[0]


class WeighedTest(Papers):
    def check_weighed(self, rows, wanted):
        told = asked(self, weighed, as_matrix(rows), as_matrix(wanted))
        self.assertIs(type(told), tuple)
        word, matrix = told
        self.check_symmetric(matrix, len(rows))
        if has_ring(rows):
            self.assertEqual(word, "ring")
            self.assertTrue(any(any(row) for row in as_rows(matrix)))
            self.assertEqual(drawn(rows, as_rows(matrix)), as_rows(matrix))
        else:
            self.assertEqual(word, "one")
            self.assertEqual(left_of(rows, as_rows(matrix)), wanted)
        return word

    def some_symmetric(self, dice, many, figures=1):
        half = some_rows(dice, many, many, figures)
        return [[one + two for one, two in zip(row, column)] for row, column in zip(half, flipped(half))]

    def test_by_hand(self):
        self.assertEqual(weighed([], []), ("one", []))
        self.assertEqual(weighed([[HALF]], [[(3, 1)]]), ("one", [[(4, 1)]]))
        self.assertEqual(weighed(wanted=[[(6, 1)]], matrix=[[(2, 1)]]), ("one", [[(-2, 1)]]))
        self.assertEqual(weighed([[(0, 1), (1, 1)], [(0, 1), (0, 1)]], [[(2, 1), (3, 1)], [(3, 1), (5, 1)]]),
                         ("one", [[(2, 1), (3, 1)], [(3, 1), (7, 1)]]))
        for place in ((1, 1), (-1, 1)):
            word, ring = weighed([[place]], [[(0, 1)]])
            self.assertEqual(word, "ring")
            self.assertNotEqual(ring[0][0], (0, 1))

    def test_any_matrix(self):
        dice = chance(51)
        for many in range(7):
            for figures in (1, 2, 5):
                rows = some_rows(dice, many, many, figures)
                self.check_weighed(rows, self.some_symmetric(dice, many, figures))

    def test_blocks_seen_in_another_basis(self):
        dice = chance(52)
        words = []
        for many in range(1, 7):
            for _ in range(8):
                blocks = some_blocks(dice, many)
                rows = seen_in(some_basis(dice, many), side_by_side(blocks))
                word = self.check_weighed(rows, self.some_symmetric(dice, many))
                self.assertEqual(word, "ring" if word_for(blocks) == "ring" else "one")
                words.append(word)
        self.assertIn("ring", words)
        self.assertIn("one", words)

    def test_a_ring_whatever_is_wanted(self):
        for rows in (unit_rows(1), unit_rows(4), turn(0, 1), side_by_side([single(2), single(Fraction(1, 2))])):
            many = len(rows)
            for wanted in (noughts(many), unit_rows(many), left_of(rows, [[Fraction(i + j) for i in range(many)]
                                                                           for j in range(many)])):
                self.assertEqual(self.check_weighed(rows, wanted), "ring")

    def test_noughts_are_weighed_by_noughts(self):
        dice = chance(53)
        for many in range(1, 7):
            rows = side_by_side([single(Fraction(k + 2, 9)) for k in range(many)])
            self.assertEqual(weighed(as_matrix(rows), as_matrix(noughts(many))), ("one", as_matrix(noughts(many))))
            wanted = self.some_symmetric(dice, many)
            self.assertEqual(weighed(as_matrix(noughts(many)), as_matrix(wanted)), ("one", as_matrix(wanted)))

    def test_numbers_of_many_figures(self):
        dice = chance(54)
        self.check_weighed(single(Fraction(LONG, LONG + 2)), single(Fraction(-3, LONG)))
        self.check_weighed(some_rows(dice, 2, 2, 150), self.some_symmetric(dice, 2, 150))
        self.check_weighed(some_rows(dice, 6, 6, 8), self.some_symmetric(dice, 6, 8))


class StillnessTest(Papers):
    def test_the_document_s_examples(self):
        self.assertEqual(stillness([[HALF]]), ("still", [[(4, 3)]]))
        word, weights, xs = stillness([[(2, 1)]])
        self.assertEqual((word, weights), ("loud", [[(-1, 3)]]))
        self.assertEqual(len(xs), 1)
        self.assertNotEqual(xs, [(0, 1)])
        self.assertEqual(stillness([[(1, 1)]])[0], "ring")
        self.assertEqual(stillness([[(-1, 1)]])[0], "ring")
        self.assertEqual(stillness([]), ("still", []))
        self.assertEqual(stillness(matrix=[[(0, 1)]]), ("still", [[(1, 1)]]))

    def test_one_row(self):
        for top in range(-9, 10):
            for bottom in range(1, 7):
                number = Fraction(top, bottom)
                word = self.check(single(number))
                self.assertEqual(word, "ring" if abs(number) == 1 else "still" if abs(number) < 1 else "loud")

    def test_just_below_and_just_above_one(self):
        tiny = Fraction(1, LONG)
        for number, word in ((1 - tiny, "still"), (tiny - 1, "still"), (1 + tiny, "loud"), (-1 - tiny, "loud")):
            self.assertEqual(self.check(single(number)), word)
            self.assertEqual(self.check(side_by_side([single(number), single(THIRD)])), word)
            self.assertEqual(self.check(side_by_side([single(THIRD), single(number)])), word)

    def test_diagonal_ones(self):
        dice = chance(55)
        for many in range(1, 7):
            for _ in range(6):
                blocks = [dice.choice(SINGLES) for _ in range(many)]
                self.assertEqual(self.check(side_by_side(blocks)), word_for(blocks), blocks)

    def test_each_turn(self):
        for block in TURNS:
            self.assertEqual(self.check(block), word_for([block]), block)

    def test_blocks_seen_in_another_basis(self):
        dice = chance(56)
        words = []
        for many in range(1, 7):
            for _ in range(10):
                blocks = some_blocks(dice, many)
                rows = seen_in(some_basis(dice, many), side_by_side(blocks))
                word = self.check(rows)
                self.assertEqual(word, word_for(blocks), blocks)
                words.append(word)
        for word in ("still", "loud", "ring"):
            self.assertIn(word, words)

    def test_still_blocks_seen_in_another_basis(self):
        dice = chance(57)
        calm = [block for block in SINGLES + TURNS if word_for([block]) == "still"]
        for many in range(1, 4):
            for _ in range(6):
                blocks = [dice.choice(calm) for _ in range(many)]
                rows = side_by_side(blocks)
                rows = seen_in(some_basis(dice, len(rows)), rows)
                self.assertEqual(self.check(rows), "still", blocks)

    def test_powers_that_end(self):
        dice = chance(58)
        for many in range(1, 7):
            rows = [[some_number(dice) if column > row else Fraction(0) for column in range(many)]
                    for row in range(many)]
            self.assertEqual(self.check(rows), "still")
            self.assertEqual(self.check(flipped(rows)), "still")

    def test_great_places_may_be_still_and_small_ones_loud(self):
        self.assertEqual(self.check([[Fraction(1, 2), Fraction(LONG)], [Fraction(0), Fraction(1, 3)]]), "still")
        fourths = [[Fraction(26, 100)] * 4 for _ in range(4)]
        self.assertEqual(self.check(fourths), "loud")
        self.assertEqual(self.check([[Fraction(1, 4)] * 4 for _ in range(4)]), "ring")
        self.assertEqual(self.check([[Fraction(24, 100)] * 4 for _ in range(4)]), "still")

    def test_rings_of_two_that_are_no_ones(self):
        for number in (2, -3, Fraction(7, 2), LONG):
            blocks = [single(number), single(Fraction(1) / number)]
            self.assertEqual(self.check(side_by_side(blocks)), "ring")
            self.assertEqual(self.check(side_by_side([single(THIRD), *blocks])), "ring")
            self.assertEqual(self.check(side_by_side([single(number), single(Fraction(-1) / number)])), "loud")

    def test_any_matrix(self):
        dice = chance(59)
        for many in range(1, 7):
            for figures in (1, 3):
                self.check(some_rows(dice, many, many, figures))
            small = [[number / (5 * many) for number in row] for row in some_rows(dice, many, many)]
            self.check(small)

    def test_numbers_of_many_figures(self):
        dice = chance(60)
        self.check(some_rows(dice, 1, 1, 399))
        self.check(some_rows(dice, 2, 2, 200))
        self.check(some_rows(dice, 3, 3, 40))
        self.check(some_rows(dice, 6, 6, 6))


def spoiled_tuples(paper):
    """Tuples of another length, lists, and other words, with the same things within."""
    word, rest = paper[0], list(paper[1:])
    things = [(), (word,), (word, *rest, rest[0]), (word, *rest, None), paper[1:], rest, list(paper),
              tuple(reversed(paper)), ((word, *rest),), [paper], {word: rest}, word, None, True, False, 0, 1,
              Stranger(), (Stranger(), *rest), (word.encode(), *rest), ([word], *rest), (None, *rest), (True, *rest),
              (0, *rest), str(paper)]
    for other in ("still", "loud", "ring", "Still", "still ", " ring", "", "one", "above", "l", "stillness"):
        if other != word:
            things += [(other, *rest), (other, rest[0])]
    return [thing for thing in things if not (isinstance(thing, tuple) and repr(thing) == repr(paper))]


def spoiled_matrices(matrix):
    """Each place of a matrix spoiled in turn, rows and columns too few and too many, and other kinds."""
    many = len(matrix)
    wider = [[*row, (0, 1)] for row in matrix]
    things = [*no_matrices(), [], [[HALF]] * many, matrix + matrix[:1], matrix[:-1], [row[:-1] for row in matrix],
              wider, [*wider, [(0, 1)] * (many + 1)], tuple(matrix), [tuple(row) for row in matrix], (matrix,),
              [matrix]]
    for row in range(many):
        for column in range(many):
            top, bottom = matrix[row][column]
            for thing in ((top + bottom, bottom), as_pair(Fraction(top, bottom) + Fraction(1, LONG)),
                          (2 * top, 2 * bottom), [top, bottom], None, top):
                spoiled = copy.deepcopy(matrix)
                spoiled[row][column] = thing
                things.append(spoiled)
                if row != column:
                    both = copy.deepcopy(spoiled)
                    both[column][row] = thing
                    things.append(both)
    return [thing for thing in things if repr(thing) != repr(matrix)]


STILL_ONES = [[[Fraction(1, 2)]], side_by_side([turn(Fraction(1, 2), Fraction(1, 2)), single(THIRD)]),
              [[Fraction(1, 2), Fraction(3)], [Fraction(0), Fraction(-1, 4)]]]
LOUD_ONES = [[[Fraction(2)]], side_by_side([turn(1, 1), single(THIRD)]),
             [[Fraction(1, 2), Fraction(3)], [Fraction(1), Fraction(-1, 4)]]]
RING_ONES = [[[Fraction(1)]], side_by_side([turn(Fraction(3, 5), Fraction(4, 5)), single(THIRD)]),
             [[Fraction(2), Fraction(3)], [Fraction(0), Fraction(1, 2)]]]


class IsPaperTest(Papers):
    def test_what_stillness_told(self):
        for word, some in (("still", STILL_ONES), ("loud", LOUD_ONES), ("ring", RING_ONES)):
            for rows in some:
                self.assertEqual(self.check(rows), word)
        for matrix in ([], [[HALF]], [[(2, 1)]], [[(1, 1)]]):
            self.assertIs(asked(self, is_paper, matrix, stillness(matrix)), True)
            self.assertIs(is_paper(paper=stillness(matrix), matrix=matrix), True)

    def test_by_hand(self):
        self.assertIs(is_paper([], ("still", [])), True)
        self.assertIs(is_paper([], ("loud", [], [])), False)
        self.assertIs(is_paper([], ("ring", [])), False)
        self.assertIs(is_paper([], ("still", [[HALF]])), False)
        self.assertIs(is_paper([[HALF]], ("still", [[(4, 3)]])), True)
        self.assertIs(is_paper([[HALF]], ("loud", [[(4, 3)]], [(1, 1)])), False)
        self.assertIs(is_paper([[(0, 1)]], ("loud", [[(1, 1)]], [(1, 1)])), False)
        self.assertIs(is_paper([[(2, 1)]], ("still", [[(-1, 3)]])), False)
        self.assertIs(is_paper([[(2, 1)]], ("loud", [[(-1, 3)]], [(-7, 9)])), True)
        self.assertIs(is_paper([[(2, 1)]], ("loud", [[(-1, 3)]], [(0, 1)])), False)
        self.assertIs(is_paper([[(1, 1)]], ("ring", [[(-7, 2)]])), True)
        self.assertIs(is_paper([[(1, 1)]], ("ring", [[(0, 1)]])), False)
        self.assertIs(is_paper([[HALF]], ("ring", [[(0, 1)]])), False)
        self.assertIs(is_paper([[HALF]], ("ring", [[(1, 1)]])), False)

    def test_spoiled_in_turn(self):
        for rows in STILL_ONES + LOUD_ONES + RING_ONES:
            matrix = as_matrix(rows)
            paper = stillness(matrix)
            for thing in spoiled_tuples(paper):
                self.assertIs(is_paper(matrix, thing), False, thing)
            for spoiled in spoiled_matrices(paper[1]):
                if paper[0] == "ring" and self.is_ring(rows, spoiled):
                    continue
                self.assertIs(is_paper(matrix, (paper[0], spoiled, *paper[2:])), False, spoiled)

    def is_ring(self, rows, matrix):
        """Whether a spoiled ring is one again."""
        if not is_matrix(matrix) or len(matrix) != len(rows) or matrix != [list(row) for row in zip(*matrix)]:
            return False
        return any(any(row) for row in as_rows(matrix)) and drawn(rows, as_rows(matrix)) == as_rows(matrix)

    def test_spoiled_lists(self):
        for rows in LOUD_ONES:
            matrix = as_matrix(rows)
            word, weights, xs = stillness(matrix)
            many = len(matrix)
            for thing in [*no_lists(many), [(0, 1)] * many, tuple(xs), None, [xs]]:
                self.assertIs(is_paper(matrix, (word, weights, thing)), False, thing)

    def test_a_list_of_another_sign(self):
        rows = side_by_side([single(2), single(THIRD)])
        weights = as_matrix([[Fraction(-1, 3), 0], [0, Fraction(9, 8)]])
        for xs, right in (([1, 0], True), ([0, 1], False), ([1, 1], False), ([2, 1], True), ([-27, 8], True),
                          ([0, -1], False), ([Fraction(1, LONG), 0], True), ([3, 2], False)):
            self.assertIs(is_paper(as_matrix(rows), ("loud", weights, as_pairs(xs))), right, xs)

    def test_a_list_that_comes_to_just_nought(self):
        # -1/3 * 9/4 + 3/4 is 0.
        rows = side_by_side([single(2), single(0)])
        weights = as_matrix([[Fraction(-1, 3), 0], [0, 1]])
        self.assertIs(is_paper(as_matrix(rows), ("loud", weights, as_pairs([Fraction(3, 2), Fraction(1, 2)]))), True)
        rows = side_by_side([single(2), single(Fraction(1, 2))])
        weights = as_matrix([[Fraction(-1, 3), 0], [0, Fraction(4, 3)]])
        self.assertIs(is_paper(as_matrix(rows), ("loud", weights, [(2, 1), (1, 1)])), True)
        self.assertIs(is_paper(as_matrix(rows), ("loud", weights, [(199, 100), (1, 1)])), False)

    def test_a_paper_of_another_matrix(self):
        everything = STILL_ONES + LOUD_ONES + RING_ONES
        for one in everything:
            for other in everything:
                if one != other:
                    paper = stillness(as_matrix(other))
                    if paper[0] == "ring" and self.is_ring(one, paper[1]):
                        continue
                    self.assertIs(is_paper(as_matrix(one), paper), False, (one, other))

    def test_both_a_ring_and_loud(self):
        matrix = as_matrix(side_by_side([single(2), single(Fraction(1, 2))]))
        self.assertEqual(stillness(matrix)[0], "ring")
        for across in (Fraction(0), Fraction(5), Fraction(-1, 7)):
            if across:
                self.assertIs(is_paper(matrix, ("ring", as_matrix([[0, across], [across, 0]]))), True)
            weights = as_matrix([[Fraction(-1, 3), across], [across, Fraction(4, 3)]])
            self.assertIs(is_paper(matrix, ("loud", weights, [(1, 1), (0, 1)])), True)
            self.assertIs(is_paper(matrix, ("still", weights)), False)

    def test_a_ring_without_a_loud_paper(self):
        # No P at all leaves the unit here, so none of any sign does.
        for number in range(-5, 6):
            self.assertIs(is_paper([[(1, 1)]], ("loud", [[(number, 1)]], [(1, 1)])), False)
            self.assertIs(is_paper([[(1, 1)]], ("still", [[(number, 1)]])), False)

    def test_still_by_none_that_is_loud_or_a_ring(self):
        for rows in STILL_ONES:
            matrix = as_matrix(rows)
            weights = stillness(matrix)[1]
            many = len(matrix)
            for xs in itertools.product([(0, 1), (1, 1), (-1, 1)], repeat=many):
                self.assertIs(is_paper(matrix, ("loud", weights, list(xs))), False)
            self.assertIs(is_paper(matrix, ("ring", weights)), False)

    def test_a_right_matrix_that_is_not_above(self):
        for rows in LOUD_ONES:
            self.assertIs(is_paper(as_matrix(rows), ("still", stillness(as_matrix(rows))[1])), False)

    def test_a_matrix_that_is_not_symmetric(self):
        # X less F' X F is the unit, but X is not as it is mirrored.
        matrix = as_matrix(side_by_side([single(2), single(Fraction(1, 2))]))
        for one, other in ((1, 2), (0, 1), (-1, 1)):
            weights = as_matrix([[Fraction(-1, 3), one], [other, Fraction(4, 3)]])
            self.assertIs(is_paper(matrix, ("loud", weights, [(1, 1), (0, 1)])), False)
            ring = as_matrix([[0, one], [other, 0]])
            self.assertIs(is_paper(matrix, ("ring", ring)), False)

    def test_other_kinds(self):
        for matrix in ([], [[HALF]], [[(1, 1)]], [[(2, 1)]]):
            self.assertIs(is_paper(matrix, matrix), False)
            for thing in [*other_kinds(), *no_fractions(), *no_matrices(), "still", "ring", object(), self]:
                self.assertIs(is_paper(matrix, thing), False)
                for word in ("still", "ring", "loud"):
                    if repr(thing) != "[]" or matrix != []:
                        self.assertIs(is_paper(matrix, (word, thing)), False)
                    self.assertIs(is_paper(matrix, (word, thing, thing)), False)

    def test_numbers_of_any_size(self):
        for figures in (399, 3999, 5000, 9000):
            far = 10 ** figures + 1
            small = Fraction(2, far)
            weights = 1 / (1 - small * small)
            self.assertIs(is_paper([[as_pair(small)]], ("still", [[as_pair(weights)]])), True)
            self.assertIs(is_paper([[as_pair(small)]], ("still", [[as_pair(weights + small)]])), False)
            self.assertIs(is_paper([[as_pair(small)]], ("still", [[(far, 1)]])), False)
            weights = 1 / (1 - Fraction(far * far))
            self.assertIs(is_paper([[(far, 1)]], ("loud", [[as_pair(weights)]], [(far, 1)])), True)
            self.assertIs(is_paper([[(far, 1)]], ("loud", [[as_pair(-weights)]], [(far, 1)])), False)
            self.assertIs(is_paper([[(1, 1)]], ("ring", [[(far, far - 1)]])), True)
            self.assertIs(is_paper([[(far, far - 1)]], ("ring", [[(far, far - 1)]])), False)

    def test_a_long_paper_of_six_rows(self):
        dice = chance(61)
        rows = [[number / 90 for number in row] for row in some_rows(dice, 6, 6, 8)]
        matrix = as_matrix(rows)
        paper = stillness(matrix)
        self.assertGreater(max(bottom.bit_length() for row in paper[1] for top, bottom in row), 3000)
        self.assertIs(is_paper(matrix, paper), True)
        spoiled = copy.deepcopy(paper)
        top, bottom = spoiled[1][5][5]
        spoiled[1][5][5] = (top + bottom, bottom)
        self.assertIs(is_paper(matrix, spoiled), False)

    def test_what_is_looked_at_stays(self):
        matrix = as_matrix(LOUD_ONES[1])
        paper = stillness(matrix)
        before = copy.deepcopy((matrix, paper))
        self.assertIs(is_paper(matrix, paper), True)
        self.assertIs(is_paper(matrix, ("loud", paper[1], [(0, 1)] * 3)), False)
        self.assertEqual((matrix, paper), before)


SQUARE = [[HALF, (1, 1)], [(0, 1), (1, 3)]]
SYMMETRIC = [[(2, 1), HALF], [HALF, (3, 1)]]
LIST = [(1, 1), (2, 1)]
WIDE = [[HALF, HALF, HALF], [HALF, HALF, HALF]]
TALL = [[HALF, HALF], [HALF, HALF], [HALF, HALF]]
TAKES = [(weighed, [SQUARE, SYMMETRIC], (0, 1)), (stillness, [SQUARE], (0,)),
         (is_paper, [SQUARE, ("still", SYMMETRIC)], (0,)), (energy, [SQUARE, LIST, LIST, HALF], (0,)),
         (halving, [SQUARE, 60], (0,)), (worth, [SQUARE, LIST], (0,))]


class RefusedTest(unittest.TestCase):
    def test_what_is_no_matrix(self):
        for call, given, places in TAKES:
            call(*given)
            for at in places:
                refused_at(self, NoMatrix, call, given, at, no_matrices())

    def test_a_matrix_that_is_not_square(self):
        for call, given, places in TAKES:
            for at in places:
                wrong = [WIDE, TALL, [[HALF, HALF]], [[HALF], [HALF]], [[HALF] * 10]]
                refused_at(self, NoMatrix, call, given, at, wrong)

    def test_a_matrix_of_another_size(self):
        for matrix in ([], [[HALF]], as_matrix(unit_rows(3)), as_matrix(unit_rows(10))):
            refusal(self, NoMatrix, weighed, SQUARE, matrix)
            refusal(self, NoMatrix, weighed, matrix, SYMMETRIC)
            refusal(self, NoMatrix, worth, matrix, LIST)
            refusal(self, NoMatrix, energy, matrix, LIST, LIST, HALF)

    def test_a_matrix_that_is_not_symmetric(self):
        refusal(self, NoMatrix, weighed, SYMMETRIC, SQUARE)
        for row, column in ((0, 1), (1, 0), (2, 0), (1, 2)):
            wanted = as_matrix(unit_rows(3))
            wanted[row][column] = (1, LONG)
            refusal(self, NoMatrix, weighed, as_matrix(unit_rows(3)), wanted)

    def test_two_amiss(self):
        for thing in no_matrices():
            refusal(self, NoMatrix, weighed, thing, thing)
            refusal(self, NoMatrix, is_paper, thing, thing)
            refusal(self, NoMatrix, worth, thing, thing)
            refusal(self, NoMatrix, energy, thing, thing, thing, thing)

    def test_a_paper_right_of_nothing(self):
        for thing in no_matrices():
            refusal(self, NoMatrix, is_paper, thing, ("still", []))
        refusal(self, NoMatrix, is_paper, WIDE, ("ring", SYMMETRIC))


class InterfaceTest(unittest.TestCase):
    def test_names_and_arguments(self):
        check_interface(self, stillness_module, {
            "weighed": "(matrix, wanted)", "stillness": "(matrix)", "is_paper": "(matrix, paper)",
            "energy": "(matrix, column, row, through)", "halving": "(matrix, most=60)", "worth": "(matrix, xs)"})


if __name__ == "__main__":
    unittest.main()

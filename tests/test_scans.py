import itertools
import random
import unittest
from fractions import Fraction

from barlabel.errors import NoLabel
from barlabel.founts import Fount
from barlabel.scans import edges_of, scanned
from samples import BROAD, LONG, NARROW, made_founts, primes_for

SUITED = [made for made in [NARROW, BROAD, LONG] + made_founts(15) if primes_for(*made[:2])]
FIRSTS = [0, 1, -1, -7, 1000, -10 ** 19, 10 ** 19]
GREAT = 99999999999999999999


def turned(edges, number):
    return [number - edge for edge in reversed(edges)]


def widths_slowly(fount, edges):
    """Each distance in units, and the whole numbers from 0 on tried for the nearest one."""
    whole = fount.total() * ((len(edges) - 2) // fount.parts()) + fount.stop()[-1]
    widths = []
    for number in range(1, len(edges)):
        units = Fraction((edges[number] - edges[number - 1]) * whole, edges[-1] - edges[0])
        widths.append(max(range(whole + 1), key=lambda width: (-abs(units - width), width)))
    return widths


class Edges(unittest.TestCase):
    def check_edges(self, widths, first, unit, edges):
        handed = list(widths)
        found = edges_of(handed, first, unit)
        self.assertEqual(found, edges)
        self.assertIs(type(found), list)
        self.assertEqual(handed, widths)

    def test_by_hand(self):
        self.check_edges([1], 0, 1, [0, 1])
        self.check_edges([1, 2, 3], 0, 1, [0, 1, 3, 6])
        self.check_edges([1, 2, 3], 5, 10, [5, 15, 35, 65])
        self.check_edges([4, 1, 1], -9, 4, [-9, 7, 11, 15])
        self.check_edges([4, 1], -100, 3, [-100, -88, -85])

    def test_no_widths(self):
        for first in FIRSTS:
            self.check_edges([], first, 3, [first])

    def test_great_numbers(self):
        self.check_edges([1, 4], GREAT, GREAT, [GREAT, 2 * GREAT, 6 * GREAT])
        self.check_edges([1, 4], -GREAT, GREAT, [-GREAT, 0, 4 * GREAT])
        self.check_edges([GREAT, 1], -GREAT, 1, [-GREAT, 0, 1])
        self.check_edges([5, 100, 7], 1, 10 ** 19, [1, 5 * 10 ** 19 + 1, 105 * 10 ** 19 + 1, 112 * 10 ** 19 + 1])

    def test_printed_rows(self):
        for made in SUITED:
            widths = Fount(*made).printed([0, 1, 2, 3, 4])
            for first in FIRSTS:
                for unit in (1, 2, 7, 8, 10 ** 19):
                    edges = [first + unit * sum(widths[:number]) for number in range(len(widths) + 1)]
                    self.check_edges(widths, first, unit, edges)

    def test_edges_are_the_askers_own(self):
        widths = [1, 2]
        edges = edges_of(widths, 3, 4)
        edges[0] = 9
        edges.append(1)
        self.assertEqual(widths, [1, 2])
        again = edges_of(widths, 3, 4)
        widths.append(7)
        self.assertEqual(again, [3, 7, 15])
        empty = []
        edges_of(empty, 0, 1).append(2)
        self.assertEqual(empty, [])
        self.assertEqual(edges_of(empty, 0, 1), [0])


class Scans(unittest.TestCase):
    def check_scanned(self, made, prime, edges, row):
        fount = Fount(*made)
        for seen in [edges] + [turned(edges, number) for number in (0, -13, edges[-1], 10 ** 19)]:
            handed = list(seen)
            found = scanned(fount, prime, handed)
            self.assertEqual(found, row, (made, prime, seen))
            self.assertIs(type(found), list)
            self.assertEqual(handed, seen)

    def check_refused(self, made, prime, edges):
        fount = Fount(*made)
        handed = list(edges)
        with self.subTest(made=made, prime=prime, edges=edges):
            with self.assertRaises(NoLabel) as caught:
                scanned(fount, prime, handed)
            self.assertIsNone(caught.exception.number)
            self.assertEqual(handed, edges)

    def test_by_hand(self):
        edges = [0, 1, 3, 6, 7, 9, 10, 11, 14, 16]
        self.check_scanned(NARROW, 5, edges, [])
        self.check_scanned(NARROW, 5, [10 * edge - 3 for edge in edges], [])
        edges = [0, 1, 3, 6, 7, 8, 10, 11, 14, 16, 17, 18, 21, 23]
        self.check_scanned(NARROW, 5, edges, [4])
        self.check_scanned(NARROW, 7, [100 * edge + 7 for edge in edges], [4])
        # The unit is 8, and each of these edges is off by 1.
        self.check_scanned(NARROW, 7, [1, 7, 25, 47, 57, 63, 81, 87, 113, 127, 137, 143, 169, 183], [4])

    def test_rows_as_they_were(self):
        chance = random.Random(16)
        for made in SUITED:
            for prime in primes_for(*made[:2]):
                for length in (0, 1, prime):
                    row = [chance.randrange(prime) for place in range(length)]
                    edges = edges_of(Fount(*made).printed(row), chance.choice(FIRSTS), chance.choice([1, 2, 3, 1000]))
                    self.check_scanned(made, prime, edges, row)

    def test_every_first_edge_and_unit(self):
        widths = Fount(*LONG).printed([46, 0, 17])
        for first in FIRSTS + [GREAT, -GREAT]:
            for unit in (1, 2, 3, 5, 8, 100, 12345, 10 ** 19):
                self.check_scanned(LONG, 47, edges_of(widths, first, unit), [46, 0, 17])

    def moved(self, chance, edges, unit, way):
        most = unit // 8
        moves = {"ends": [-most, most], "any": range(-most, most + 1)}[way]
        return [edge + chance.choice(moves) for edge in edges]

    def test_each_edge_moved_by_at_most_an_eighth(self):
        chance = random.Random(17)
        for made in SUITED:
            prime = primes_for(*made[:2])[-1]
            fount = Fount(*made)
            for unit in (8, 15, 16, 80, 1000, 8 * 10 ** 18):
                for way in ("ends", "ends", "any"):
                    for length in (0, 1, 3, prime):
                        row = [chance.randrange(prime) for place in range(length)]
                        edges = edges_of(fount.printed(row), chance.choice(FIRSTS), unit)
                        self.check_scanned(made, prime, self.moved(chance, edges, unit, way), row)

    def test_every_way_to_move_the_edges_of_a_shortest_label(self):
        for made in (NARROW, BROAD):
            fount = Fount(*made)
            edges = edges_of(fount.printed([]), -20, 8)
            for moves in itertools.product((-1, 1), repeat=len(edges)):
                seen = [edge + move for edge, move in zip(edges, moves)]
                self.assertEqual(scanned(fount, 5, seen), [])
                self.assertEqual(scanned(fount, 5, turned(seen, 5)), [])

    def test_wide_and_narrow_moved_as_far_as_can_be(self):
        # Each bar as much wider as can be and each gap narrower, then the other way round.
        for made in SUITED:
            prime = primes_for(*made[:2])[-1]
            for row in ([], [0], [prime - 1], [0, prime - 1, 1, 2]):
                edges = edges_of(Fount(*made).printed(row), 0, 8)
                for sign in (-1, 1):
                    moved = [edge + sign * (-1 if number % 2 else 1) for number, edge in enumerate(edges)]
                    self.check_scanned(made, prime, moved, row)

    def test_unreadable_stretches(self):
        fount = Fount(*NARROW)
        self.check_scanned(NARROW, 5, edges_of(fount.printed([0, 5, 4, 19, 1]), 3, 40), [0, None, 4, None, 1])
        self.check_scanned(NARROW, 17, edges_of(fount.printed([0, 5, 4, 17, 16]), 3, 40), [0, 5, 4, None, 16])
        # The distances come to the total, but the widths 5, 1, 1, 1 are no pattern.
        edges = [0, 10, 30, 60, 70, 116, 124, 132, 140, 160, 170, 180, 210, 230]
        self.check_scanned(NARROW, 5, edges, [None])

    def test_one_edge_moved_far(self):
        fount = Fount(*NARROW)
        for row in ([2], [0, 4, 3]):
            edges = edges_of(fount.printed(row), 0, 100)
            moved = list(edges)
            moved[5] = edges[4] + 1
            expected = list(row)
            expected[0] = None
            self.check_scanned(NARROW, 5, moved, expected)

    def test_widths_of_nought(self):
        # A distance below half a unit is a width of nought, not of one.
        edges = [1000 * edge for edge in (0, 1, 3, 6, 7, 8, 9, 10, 14, 16, 17, 18, 21, 23)]
        self.check_scanned(NARROW, 5, edges, [0])
        for far in (1, 499):
            self.check_scanned(NARROW, 5, edges[:5] + [7000 + far] + edges[6:], [None])

    def test_the_greater_one_of_two_as_near(self):
        made = (4, 8, [2, 1, 1, 4], [3, 1, 1, 3, 1])
        exact = [0, 8, 12, 16, 32, 44, 48, 52, 64, 68]
        self.check_scanned(made, 5, exact, [])
        # One and a half, then one and a quarter twice.
        self.check_scanned(made, 5, [0, 6, 11, 16] + exact[4:], [])
        # Two and a half, then one and a quarter twice.
        self.check_scanned(made, 5, exact[:4] + [32, 42, 47, 52] + exact[8:], [])
        # One half, then one and a quarter, four and a quarter.
        self.check_scanned(made, 5, [0, 8, 10, 15] + exact[4:], [])
        # One and a quarter twice, then three and a half.
        self.check_scanned(made, 5, [0, 8, 13, 18] + exact[4:], [])

    def test_the_greater_one_among_symbols(self):
        fount = Fount(*NARROW)
        lists = fount.patterns()
        chance = random.Random(18)
        ties = 0
        for turn in range(3000):
            row = [chance.randrange(19) for place in range(2)]
            edges = edges_of(fount.printed(row), 0, 4)
            for number in range(5, 12):
                edges[number] += chance.choice([-2, -1, 0, 1, 2])
            if any(edges[number] <= edges[number - 1] for number in range(1, len(edges))):
                continue
            widths = widths_slowly(fount, edges)
            stretches = [widths[4:8], widths[8:12]]
            ties += any((after - ahead) % 4 == 2 for ahead, after in zip(edges, edges[1:]))
            expected = [lists.index(stretch) if stretch in lists else None for stretch in stretches]
            expected = [None if symbol == 19 else symbol for symbol in expected]
            self.assertEqual(scanned(fount, 19, edges), expected, edges)
        self.assertGreater(ties, 1000)

    def test_wrong_numbers_of_edges(self):
        for made in (NARROW, BROAD, LONG):
            parts = made[0]
            for count in range(70):
                if count not in range(2 * parts + 2, 70, parts):
                    self.check_refused(made, 5, list(range(count)))
                    self.check_refused(made, 5, [7 * edge - 100 for edge in range(count)])

    def test_edges_of_a_label_with_some_left_out_or_more(self):
        for made in (NARROW, LONG):
            edges = edges_of(Fount(*made).printed([0, 1]), 0, 10)
            for number in range(len(edges)):
                self.check_refused(made, 5, edges[:number] + edges[number + 1:])
            self.check_refused(made, 5, edges + [edges[-1] + 10])
            self.check_refused(made, 5, [-10] + edges)
            self.check_refused(made, 5, [edges[0]])

    def test_no_edges(self):
        for made in SUITED:
            self.check_refused(made, 5, [])
            self.check_refused(made, 5, [0])

    def test_edges_not_greater_than_the_one_ahead(self):
        for made in (NARROW, LONG):
            edges = edges_of(Fount(*made).printed([0, 3, 1]), -40, 16)
            self.check_scanned(made, 5, edges, [0, 3, 1])
            for number in range(1, len(edges)):
                for less in (0, 1, 1000, 10 ** 19):
                    wrong = list(edges)
                    wrong[number] = wrong[number - 1] - less
                    self.check_refused(made, 5, wrong)
            for number in range(len(edges) - 1):
                wrong = list(edges)
                wrong[number] = wrong[number + 1]
                self.check_refused(made, 5, wrong)
                wrong[number] = wrong[number + 1] + 1
                self.check_refused(made, 5, wrong)

    def test_all_edges_one_or_falling(self):
        for made in (NARROW, LONG):
            edges = edges_of(Fount(*made).printed([0]), 5, 16)
            self.check_refused(made, 5, [7] * len(edges))
            self.check_refused(made, 5, list(reversed(edges)))
            self.check_refused(made, 5, [-edge for edge in edges])
            self.check_refused(made, 5, edges[:-1] + [edges[0]])

    def test_a_small_step_back(self):
        # So little that the widths would be unreadable, but still be a label.
        edges = edges_of(Fount(*NARROW).printed([0, 3, 1]), 0, 1000)
        for less in (0, 1, 2):
            wrong = list(edges)
            wrong[6] = wrong[5] - less
            self.check_refused(NARROW, 5, wrong)

    def test_neither_end(self):
        for made in SUITED:
            prime = primes_for(*made[:2])[-1]
            widths = Fount(*made).printed([0, 1])
            for number in (0, made[0] - 1, len(widths) - 1, len(widths) - made[0] - 1):
                wrong = list(widths)
                wrong[number] += 1 if number < made[0] else 2
                self.check_refused(made, prime, edges_of(wrong, 0, 50))

    def test_rows_are_the_askers_own(self):
        fount = Fount(*NARROW)
        edges = edges_of(fount.printed([3, 2]), 0, 5)
        row = scanned(fount, 5, edges)
        row.append(4)
        row[0] = None
        self.assertEqual(scanned(fount, 5, edges), [3, 2])
        again = scanned(fount, 5, edges)
        edges.clear()
        self.assertEqual(again, [3, 2])
        self.assertEqual((fount.start(), fount.stop()), (NARROW[2], NARROW[3]))


if __name__ == "__main__":
    unittest.main()

"""What shares rests on: greatest sums within bounds, by whole numbers alone."""

import unittest

from tests.samples import chance
from wantprices.pivots import solved

# Each goes round for ever where, of rows that bound alike, the first, the last, or that of the last column is taken.
RINGS = (
    (((-6, -9, -3, -2, 6), (2, 9, -6, -2, 3), (-2, 7, 6, 0, 0)), (1, 9, -3, 2, -7)),
    (((-3, 0, -4, 0, 4, -2), (-3, 3, 6, 6, -5, 4), (3, -5, 6, 5, 1, -5)), (-5, 1, -2, -6, -3, 5)),
    (((-6, 2, -4, 1, 1), (1, 3, -4, 0, 6), (4, 0, 4, 4, -3)), (4, -1, 6, -1, 5)),
)


def first_table(uses, bounds, worths):
    """The table of all uses and what each is worth, with one column more for each bound."""
    table = [
        list(use) + [int(here == at) for here in range(len(uses))] + [bounds[at]] for at, use in enumerate(uses)
    ]
    return table + [[-worth for worth in worths] + [0] * (len(uses) + 1)]


class Solved(unittest.TestCase):

    def check(self, uses, bounds, worths):
        """The greatest sum as (sum, by): parts that keep all bounds, and what shows that none are worth more."""
        columns = range(len(worths))
        start = list(range(len(worths), len(worths) + len(bounds)))
        by, table, chosen = solved(first_table(uses, bounds, worths), start)
        self.assertGreaterEqual(by, 1)
        parts = dict(zip(chosen, [row[-1] for row in table]))
        self.assertGreaterEqual(min(parts.values()), 0)
        for use, bound in zip(uses, bounds):
            self.assertLessEqual(sum(use[at] * parts.get(at, 0) for at in columns), by * bound)
        ends = table[-1][len(worths):-1]
        self.assertGreaterEqual(min(ends), 0)
        for at in columns:
            self.assertGreaterEqual(sum(use[at] * end for use, end in zip(uses, ends)), by * worths[at])
        most = sum(worths[at] * parts.get(at, 0) for at in columns)
        self.assertEqual(most, sum(bound * end for bound, end in zip(bounds, ends)))
        self.assertEqual(most, table[-1][-1])
        return (most, by)

    def test_written_out(self):
        self.assertEqual(self.check([(1,)], (3,), (2,)), (6, 1))
        self.assertEqual(self.check([(2,)], (3,), (2,)), (6, 2))
        self.assertEqual(self.check([(1,)], (3,), (0,)), (0, 1))
        most, by = self.check([(1, 1, 0), (1, 0, 1), (0, 1, 1)], (1, 1, 1), (1, 1, 1))
        self.assertEqual(2 * most, 3 * by)

    def test_what_was_filled_is_let_go_again(self):
        # The first column goes in first, and goes out when the second one, worth more, comes.
        self.assertEqual(self.check([(1, 1), (0, 1)], (1, 1), (1, 3)), (3, 1))
        most, by = self.check([(1, 2), (2, 1)], (4, 4), (3, 3))
        self.assertEqual(most, 8 * by)

    def test_no_ring(self):
        for uses, worths in RINGS:
            bounded = uses + ((1,) * len(worths),)
            self.check(bounded, (0,) * len(uses) + (1,), worths)

    def test_some_tables(self):
        source = chance(231)
        for _ in range(400):
            many, rows, most = source.randint(1, 6), source.randint(1, 4), source.choice((1, 2, 9))
            # The first row bounds all columns together, so that there is a greatest sum.
            uses = [(1,) * many] + [tuple(source.randint(-most, most) for _ in range(many)) for _ in range(rows)]
            bounds = (source.randint(0, 3),) + tuple(source.randint(0, 2) for _ in range(rows))
            self.check(uses, bounds, tuple(source.randint(-most, most) for _ in range(many)))


if __name__ == "__main__":
    unittest.main()

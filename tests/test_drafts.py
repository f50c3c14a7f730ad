"""Drafts of machines, from which machines are made: what tells early that one would be too large."""

import random
import unittest

from readagain.building import draft_of
from readagain.drafts import count_far_nodes, count_places, explored, reduced
from readagain.errors import TooLarge
from readagain.formats import is_format
from readagain.machines import machine_of
from tests.making import some_pair, some_wrapped


class Drafts(unittest.TestCase):
    WAYS = {
        "start": [("mm", "ab", "one"), ("nn", "", "two"), ("oo", "x", "dead")],
        "one": [("pp", "c", ("end",))],
        "two": [("pp", "c", ("end",))],
        "dead": [("qq", "", "dead")],
    }

    def draft(self):
        return reduced(explored("xy", "start", lambda key: self.WAYS[key]))

    def test_reduced(self):
        self.assertEqual(self.draft(), ("xy", [[("mm", "ab", 1), ("nn", "", 1)], [("pp", "c", 2)], None]))

    def test_places(self):
        # Ahead of x, y; behind them; ahead of a, b; ahead of pp, and of c; the end.
        self.assertEqual(count_places(self.draft()), 8)

    def test_far_nodes(self):
        self.assertEqual([count_far_nodes(self.draft(), many) for many in range(7)], [3, 3, 3, 2, 2, 1, 0])


class Early(unittest.TestCase):
    def test_too_large_is_not_told_too_early(self):
        rng = random.Random(61)
        for _ in range(150):
            sort, format = some_pair(rng, True, 3)
            wrapped = some_wrapped(rng, sort, 3)
            for _ in range(3):
                wrapped = rng.choice((
                    ("pad", rng.randint(0, 8), "0", "^", wrapped), ("cut", rng.randint(0, 8), wrapped), wrapped,
                    ("checked", rng.randint(2, 16), 1, wrapped)))
            for told in (format, wrapped):
                if is_format(sort, told):
                    with self.subTest((sort, told)):
                        many = count_places(draft_of(sort, told, None, None))
                        try:
                            self.assertEqual(len(machine_of(sort, told)), many)
                        except TooLarge:
                            self.assertGreater(many, 500)


if __name__ == "__main__":
    unittest.main()

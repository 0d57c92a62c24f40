"""Programs made at random, run by meant and by a machine, and by section 7 taken word by word."""

import unittest

from keptagain.core import Program

from makers import Keeper, Maker
from plain import plainly
from runs import run


class Random(unittest.TestCase):

    def test_meant_tells_what_the_words_tell(self):
        ways = set()
        for seed in range(2000):
            maker = (Maker, Keeper)[seed % 2](seed)
            text = maker.text()
            most = maker.random.choice((10, 50, 150))
            told = run(text, (), most)
            self.assertEqual(told, plainly(Program(text), (), most), text)
            ways.add(told[0])
        self.assertEqual(ways, {"ended", "fault", "on"})


if __name__ == "__main__":
    unittest.main()

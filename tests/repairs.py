"""What several tests ask of what is shown without the units that are lost."""

import unittest

from picturetide.pictures import plain
from picturetide.reaching import reach
from picturetide.streams import shown
from stream_samples import rest_of


class RepairTest(unittest.TestCase):
    def assert_repaired(self, units, lost, values):
        """What is shown without what is lost is unlike only where it is reached, and repaired where it is lost."""
        whole, found = shown(units), shown(values)
        if not rest_of(units, lost):
            self.assertEqual(found, ())
            return
        reached = reach(units, lost)
        ahead = plain(len(whole[0]), len(whole[0][0]), 128)
        for number, picture in enumerate(found):
            unlike = {(y, x) for y, row in enumerate(picture) for x, value in enumerate(row)
                      if value != whole[number][y][x]}
            self.assertLessEqual(unlike, set(reached[number]))
            for band in range(len(picture) // 8):
                if (number, band) in lost:
                    self.assertEqual(picture[8 * band:8 * band + 8], ahead[8 * band:8 * band + 8])
            ahead = picture

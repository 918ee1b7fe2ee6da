"""Point 14: chains and rings."""

import unittest

from ringclause.chains import chain_sum, ring_sum
from ringclause.errors import InvalidChain
from tests.samples import HUGE, NO_LITERALS, PLAIN, most, no, yes

XY, YZ, ZX, YX = most("x", "y", -2), most("y", "z", 5), most("z", "x", -4), most("y", "x", 2)
CHAINS = [
    ([XY], ("x", "y", -2)), ([XY, YZ], ("x", "z", 3)), ([YZ, ZX], ("y", "x", 1)), ([XY, YX, XY], ("x", "y", -2)),
    ([XY, YZ, ZX, XY, YZ], ("x", "z", 2)), ([most("x", "y", HUGE), most("y", "z", HUGE)], ("x", "z", 2 * HUGE)),
    ([most("a", "b", 0)], ("a", "b", 0)),
]
RINGS = [
    ([XY, YX], 0), ([YX, XY], 0), ([XY, YZ, ZX], -1), ([YZ, ZX, XY], -1), ([XY, YX, XY, YX], 0),
    ([most("x", "y", -1), most("y", "x", -1)], -2), ([most("x", "y", 4), most("y", "x", 3)], 7),
    ([most("x", "y", HUGE), most("y", "x", -HUGE - 1)], -1),
]
NO_CHAINS = [[], (), [XY, XY], [YZ, XY], [XY, ZX], [XY, YZ, YZ], [XY, YX, YZ], [most("x", "y", 0), most("z", "x", 0)],
             [list(XY)], ([*XY], YZ), [XY, list(YZ)], [yes("p")], [XY, no("p")], XY, [[XY]], (XY, ()), "xy",
             [most("x", "y", True)], [XY, most("y", "z", False)], [most("x", "x", 0)], [XY, most("Y", "z", 0)]]


class ChainsTest(unittest.TestCase):
    def refused(self, function, value):
        with self.assertRaises(InvalidChain) as caught:
            function(value)
        self.assertIs(caught.exception.bounds, value)

    def test_chains(self):
        for bounds, expected in CHAINS + [(ring, (ring[0][1], ring[0][1], total)) for ring, total in RINGS]:
            self.assertEqual(chain_sum(bounds), expected)
            self.assertEqual(chain_sum(tuple(bounds)), expected)
            self.assertIsInstance(chain_sum(bounds), tuple)

    def test_rings(self):
        for bounds, total in RINGS:
            self.assertEqual(ring_sum(bounds), total)
            self.assertEqual(ring_sum(tuple(bounds)), total)

    def test_chains_that_are_no_rings(self):
        for bounds, _ in CHAINS:
            self.refused(ring_sum, bounds)
            self.refused(ring_sum, tuple(bounds))

    def test_no_chains(self):
        for value in NO_CHAINS + PLAIN:
            self.refused(chain_sum, value)
            self.refused(ring_sum, value)

    def test_items_that_are_no_bounds(self):
        for value in NO_LITERALS + [yes("x"), no("y")]:
            for bounds in [[value], (value,), [XY, value], (value, YX), [XY, value, YX]]:
                self.refused(chain_sum, bounds)
                self.refused(ring_sum, bounds)

    def test_the_argument_stays(self):
        bounds = [XY, YZ]
        chain_sum(bounds)
        self.assertEqual(bounds, [XY, YZ])


if __name__ == "__main__":
    unittest.main()

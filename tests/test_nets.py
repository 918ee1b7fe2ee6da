"""Points 15 to 19: nets."""

import itertools
import random
import unittest

from ringclause.errors import Inconsistent, InvalidLiteral, InvalidName, UnknownMoment
from ringclause.literals import holds
from ringclause.nets import Net
from tests.samples import BAD_NAMES, GOOD_NAMES, HUGE, NO_LITERALS, Stubborn, most, no, yes
from tests.slow import slow_chain, slow_ring

LOOP = Net(most("x", "y", -1), most("y", "x", -1), most("x", "z", 0))
LOOP_RING = (most("y", "x", -1), most("x", "y", -1))
NO_BOUNDS = NO_LITERALS + [yes("p"), no("p"), yes("x")]


def slow_least(net, top):
    """The least values of a net, by trying all integers up to the top."""
    found = []
    for integers in itertools.product(range(top + 1), repeat=len(net.moments)):
        times = tuple(zip(net.moments, integers))
        if all(holds(bound, ((), times)) for bound in net.bounds):
            found.append(integers)
    return tuple(zip(net.moments, [min(column) for column in zip(*found)]))


def some_bounds(chance, moments, low, high, many):
    return [most(*chance.sample(moments, 2), chance.randrange(low, high)) for _ in range(many)]


def some_nets(many, low, high):
    """Lists of bounds of small nets, many of them with ties."""
    chance = random.Random(16)
    for _ in range(many):
        moments = "wxyz"[:chance.randrange(2, 5)]
        yield some_bounds(chance, moments, low, high, chance.randrange(7))


class NetTest(unittest.TestCase):
    def test_examples(self):
        net = Net(most("x", "y", -2), most("y", "z", -1), moments=("w",))
        self.assertEqual([net.most("x", "z"), net.most("z", "x"), net.least(), net.carried("y")],
                         [-3, None, (("w", 0), ("x", 0), ("y", 2), ("z", 3)), ("y", "z")])
        self.assertEqual(Net(most("x", "y", -1), most("y", "x", -1)).ring, LOOP_RING)

    def test_bounds(self):
        first, second, third = most("z", "y", 4), most("a", "b", -1), most("z", "y", 3)
        self.assertEqual(Net(first, second, first, third, second).bounds, (first, second, third))
        self.assertEqual(Net(third, second, first).bounds, (third, second, first))
        self.assertEqual(Net().bounds, ())
        self.assertEqual(Net(*LOOP_RING, *LOOP_RING).bounds, LOOP_RING)

    def test_moments(self):
        self.assertEqual(Net(most("z", "y", 4), most("a", "z", -1)).moments, ("a", "y", "z"))
        self.assertEqual(Net(most("z", "y", 4), moments=["b", "z", "b", "a"]).moments, ("a", "b", "y", "z"))
        self.assertEqual(Net(moments=GOOD_NAMES).moments, tuple(sorted(GOOD_NAMES)))
        self.assertEqual([Net().moments, Net(moments=[]).moments], [(), ()])
        self.assertEqual(Net(*LOOP_RING, moments=("a",)).moments, ("a", "x", "y"))

    def test_it_copies_what_it_is_given(self):
        names = ["b", "a"]
        net = Net(moments=names)
        names.append("c")
        self.assertEqual([net.moments, names], [("a", "b"), ["b", "a", "c"]])

    def test_wrong_bounds(self):
        for value in NO_BOUNDS:
            with self.assertRaises(InvalidLiteral) as caught:
                Net(most("x", "y", 0), value, None)
            self.assertIs(caught.exception.value, value)

    def test_wrong_moments(self):
        for value in BAD_NAMES:
            with self.assertRaises(InvalidName) as caught:
                Net(most("x", "y", 0), moments=["x", value, ""])
            self.assertIs(caught.exception.name, value)

    def test_wrong_bounds_come_first(self):
        with self.assertRaises(InvalidLiteral) as caught:
            Net(most("x", "y", 0), yes("p"), moments=("X",))
        self.assertEqual(caught.exception.value, yes("p"))


class ChainTest(unittest.TestCase):
    def same(self, net, x, y, chain):
        self.assertEqual(net.chain(x, y), chain)
        total = None if chain is None else sum(bound[3] for bound in chain)
        self.assertEqual(net.most(x, y), total)

    def test_a_moment_and_itself(self):
        net = Net(most("x", "y", 0), most("y", "x", 0), moments=("a",))
        for name in "axy":
            self.same(net, name, name, ())

    def test_no_chain(self):
        net = Net(most("x", "y", 0), most("z", "y", 0), moments=("a",))
        for x, y in ["yx", "yz", "xz", "zx", "ax", "xa"]:
            self.same(net, x, y, None)

    def test_the_least_sum(self):
        direct, first, second = most("x", "z", 3), most("x", "y", 7), most("y", "z", -5)
        for bounds in itertools.permutations([direct, first, second]):
            self.same(Net(*bounds), "x", "z", (first, second))
        for bounds in itertools.permutations([most("x", "y", 3), most("x", "y", -2), most("x", "y", 0)]):
            self.same(Net(*bounds), "x", "y", (most("x", "y", -2),))

    def test_the_fewest_bounds(self):
        direct, first, second = most("x", "z", 2), most("x", "y", 7), most("y", "z", -5)
        for bounds in itertools.permutations([direct, first, second]):
            self.same(Net(*bounds), "x", "z", (direct,))
        long = [most("v", "a", 0), most("a", "b", 0), most("b", "w", 0), most("v", "z", 1), most("z", "w", -1)]
        for bounds in itertools.permutations(long):
            self.same(Net(*bounds), "v", "w", (most("v", "z", 1), most("z", "w", -1)))

    def test_the_least_tuple(self):
        bounds = [most("v", "a", 5), most("a", "w", -5), most("v", "b", 0), most("b", "w", 0)]
        for order in itertools.permutations(bounds):
            self.same(Net(*order), "v", "w", (most("v", "a", 5), most("a", "w", -5)))
        bounds = [most("v", "a", 5), most("v", "a", 6), most("a", "w", 1), most("v", "b", 0), most("b", "w", 6)]
        for order in itertools.permutations(bounds):
            self.same(Net(*order), "v", "w", (most("v", "a", 5), most("a", "w", 1)))
        # The integers count, too: of two ways over the same moments with one sum the one that begins lower is best.
        bounds = [most("v", "a", 10), most("v", "a", 9), most("a", "w", -10), most("a", "w", -9)]
        self.same(Net(*bounds), "v", "w", (most("v", "a", 9), most("a", "w", -10)))

    def test_rings_of_sum_zero(self):
        bounds = [most("x", "y", 2), most("y", "x", -2), most("y", "z", 1), most("z", "y", -1)]
        for order in itertools.permutations(bounds):
            net = Net(*order)
            self.assertIsNone(net.ring)
            self.same(net, "x", "z", (bounds[0], bounds[2]))
            self.same(net, "z", "x", (bounds[3], bounds[1]))
            self.same(net, "x", "y", (bounds[0],))

    def test_large_integers(self):
        net = Net(most("x", "y", HUGE), most("y", "z", -HUGE), most("x", "z", 1), most("z", "x", HUGE))
        self.same(net, "x", "z", (most("x", "y", HUGE), most("y", "z", -HUGE)))
        self.same(net, "y", "x", (most("y", "z", -HUGE), most("z", "x", HUGE)))
        self.assertEqual(net.least(), (("x", 0), ("y", 0), ("z", HUGE)))

    def test_against_a_slow_search(self):
        for bounds in [*some_nets(150, -1, 3), *some_nets(150, -2, 5)]:
            net = Net(*bounds, moments=("w",))
            if net.ring is None:
                for x, y in itertools.permutations(net.moments, 2):
                    self.same(net, x, y, slow_chain(net.bounds, x, y))

    def test_the_greatest_difference(self):
        for bounds in some_nets(40, -1, 2):
            net = Net(*bounds)
            if net.ring is None:
                times = [time for time in itertools.product(range(6), repeat=len(net.moments))
                         if all(holds(bound, ((), tuple(zip(net.moments, time)))) for bound in net.bounds)]
                for x, y in itertools.permutations(range(len(net.moments)), 2):
                    told = net.most(net.moments[x], net.moments[y])
                    found = max(time[x] - time[y] for time in times)
                    if told is None:
                        # Without a greatest difference, more room gives a greater one.
                        self.assertGreater(found, max(time[x] - time[y] for time in times if max(time) < 5))
                    else:
                        self.assertEqual(found, told)


class LeastTest(unittest.TestCase):
    def test_without_bounds(self):
        self.assertEqual(Net().least(), ())
        self.assertEqual(Net(moments=("y", "x")).least(), (("x", 0), ("y", 0)))

    def test_pushed_by_several(self):
        net = Net(most("a", "c", -2), most("b", "c", -5), most("c", "d", 1), most("a", "d", -4))
        self.assertEqual(net.least(), (("a", 0), ("b", 0), ("c", 5), ("d", 4)))

    def test_positive_bounds_push_nothing(self):
        self.assertEqual(Net(most("x", "y", 4), most("y", "x", 3)).least(), (("x", 0), ("y", 0)))

    def test_against_a_slow_search(self):
        for bounds in some_nets(120, -2, 3):
            net = Net(*bounds, moments=("z",))
            if net.ring is None:
                self.assertEqual(net.least(), slow_least(net, 6))


class CarriedTest(unittest.TestCase):
    def test_carried(self):
        net = Net(most("x", "y", -2), most("y", "b", 4), most("a", "x", 0), moments=("c",))
        self.assertEqual([net.carried(name) for name in "abcxy"],
                         [("a", "b", "x", "y"), ("b",), ("c",), ("b", "x", "y"), ("b", "y")])

    def test_against_a_slow_search(self):
        for bounds in some_nets(100, -1, 4):
            net = Net(*bounds, moments=("a",))
            if net.ring is None:
                for name in net.moments:
                    expected = [other for other in net.moments
                                if other == name or slow_chain(net.bounds, name, other) is not None]
                    self.assertEqual(net.carried(name), tuple(expected))

    def test_carried_moments_may_rise(self):
        for bounds in some_nets(60, -2, 4):
            net = Net(*bounds)
            if net.ring is None:
                for name, rise in itertools.product(net.moments, [0, 1, 7, HUGE]):
                    carried = net.carried(name)
                    times = tuple((other, k + rise if other in carried else k) for other, k in net.least())
                    self.assertTrue(all(holds(bound, ((), times)) for bound in net.bounds))


class RingTest(unittest.TestCase):
    def test_consistent(self):
        for bounds in [(), (most("x", "y", -5),), (most("x", "y", -5), most("y", "x", 5))]:
            self.assertIsNone(Net(*bounds).ring)

    def test_orders_of_one_negative_ring(self):
        xy, yz, zx = most("x", "y", -2), most("y", "z", 1), most("z", "x", 0)
        rings = {xy: (xy, yz, zx), yz: (yz, zx, xy), zx: (zx, xy, yz)}
        for order in itertools.permutations([xy, yz, zx]):
            self.assertEqual(Net(*order).ring, rings[order[-1]])
            self.assertEqual(Net(*order, most("a", "b", 0), most("b", "a", -9)).ring, rings[order[-1]])

    def test_several_negative_rings(self):
        bounds = [most("x", "y", -1), most("y", "x", 0), most("a", "b", -1), most("b", "a", 0), most("x", "a", -3),
                  most("a", "x", -3)]
        for order in itertools.permutations(bounds):
            self.assertEqual(Net(*order).ring, slow_ring(order))

    def test_the_best_chain_back(self):
        back = [most("b", "a", 3), most("b", "c", 1), most("c", "a", 1), most("b", "d", 2), most("d", "a", 0),
                most("b", "e", 1), most("e", "f", 0), most("f", "a", 0)]
        for closing in [-4, -3, -2]:
            bound = most("a", "b", closing)
            self.assertEqual(Net(*back, bound).ring, (bound, *back[5:]))
        self.assertIsNone(Net(*back, most("a", "b", -1)).ring)
        few = back[:5]
        self.assertEqual(Net(*few, most("a", "b", -3)).ring, (most("a", "b", -3), back[1], back[2]))
        # Only the bounds before the closing one count: a better chain that comes later changes nothing.
        self.assertEqual(Net(*few, most("a", "b", -3), *back[5:]).ring, (most("a", "b", -3), back[1], back[2]))

    def test_against_a_slow_search(self):
        for bounds in [*some_nets(250, -2, 2), *some_nets(150, -3, 1)]:
            net = Net(*bounds)
            self.assertEqual(net.ring, slow_ring(net.bounds))

    def test_large_integers(self):
        self.assertIsNone(Net(most("x", "y", HUGE), most("y", "x", -HUGE)).ring)
        bounds = (most("x", "y", HUGE), most("y", "x", -HUGE - 1))
        self.assertEqual(Net(*bounds).ring, bounds[::-1])

    def test_inconsistent_comes_before_other_errors(self):
        for call in [lambda: LOOP.most("x", "y"), lambda: LOOP.most("a", "b"), lambda: LOOP.most("x", "x"),
                     lambda: LOOP.chain("x", "z"), lambda: LOOP.chain("a", "x"), lambda: LOOP.chain("z", "z"),
                     lambda: LOOP.least(), lambda: LOOP.carried("x"), lambda: LOOP.carried("a")]:
            with self.assertRaises(Inconsistent) as caught:
                call()
            self.assertEqual(caught.exception.ring, LOOP_RING)

    def test_unknown_moments(self):
        net = Net(most("x", "y", -1), moments=("w",))
        for function in [net.most, net.chain]:
            for x, y, name in [("a", "b", "a"), ("b", "a", "b"), ("x", "a", "a"), ("a", "x", "a"), ("a", "a", "a"),
                               ("w", "z", "z")]:
                with self.assertRaises(UnknownMoment) as caught:
                    function(x, y)
                self.assertEqual(caught.exception.name, name)
        with self.assertRaises(UnknownMoment) as caught:
            net.carried("a")
        self.assertEqual(caught.exception.name, "a")


class ImpliesTest(unittest.TestCase):
    def same(self, net, bound, expected):
        self.assertIs(net.implies(bound), expected)
        self.assertIs(bound in net, expected)
        self.assertIs(bound not in net, not expected)

    def test_around_the_sum(self):
        net = Net(most("x", "y", -2), most("y", "z", 5), most("x", "z", 9))
        for x, y, k in [("x", "y", -2), ("y", "z", 5), ("x", "z", 3)]:
            for more, expected in [(-1, False), (0, True), (1, True), (HUGE, True), (-HUGE, False)]:
                self.same(net, most(x, y, k + more), expected)
        for x, y in ["yx", "zy", "zx"]:
            self.same(net, most(x, y, HUGE), False)

    def test_moments_that_are_not_in_the_net(self):
        net = Net(most("x", "y", -2), moments=("w",))
        for x, y in ["xa", "ax", "ab", "ya", "wx", "xw", "wa"]:
            self.same(net, most(x, y, HUGE), False)
        self.same(Net(), most("x", "y", 0), False)

    def test_inconsistent(self):
        for x, y in ["xy", "yx", "xz", "zx", "ab", "ax"]:
            for k in [0, -HUGE]:
                self.same(LOOP, most(x, y, k), True)

    def test_no_bounds(self):
        for net in [Net(), Net(most("x", "y", 0)), LOOP]:
            for value in NO_BOUNDS:
                for call in [lambda: net.implies(value), lambda: value in net]:
                    with self.assertRaises(InvalidLiteral) as caught:
                        call()
                    self.assertIs(caught.exception.value, value)


class OperatorsTest(unittest.TestCase):
    def test_len(self):
        xy = most("x", "y", 0)
        self.assertEqual([len(Net()), len(Net(xy, xy)), len(Net(xy, most("x", "y", 1))), len(LOOP)], [0, 1, 2, 3])

    def test_and(self):
        xy, yx, ab = most("x", "y", -1), most("y", "x", 0), most("a", "b", 2)
        first, second = Net(xy, ab, moments=("w",)), Net(yx, xy, moments=("c",))
        joint = first & second
        self.assertEqual(joint.bounds, (xy, ab, yx))
        self.assertEqual(joint.moments, ("a", "b", "c", "w", "x", "y"))
        self.assertEqual(joint.ring, (yx, xy))
        self.assertEqual((second & first).bounds, (yx, xy, ab))
        self.assertEqual((second & first).ring, (xy, yx))
        self.assertEqual([first.bounds, first.ring], [(xy, ab), None])
        self.assertEqual((Net() & first).bounds, first.bounds)
        self.assertEqual((first & Net(moments=("d",))).moments, ("a", "b", "d", "w", "x", "y"))

    def equal(self, first, second, expected):
        for left, right in [(first, second), (second, first)]:
            self.assertIs(left == right, expected)
            self.assertIs(left != right, not expected)

    def test_equal_in_meaning(self):
        xy, yz, xz = most("x", "y", 1), most("y", "z", 2), most("x", "z", 3)
        self.equal(Net(), Net(), True)
        self.equal(Net(xy, yz), Net(yz, xy), True)
        self.equal(Net(xy, yz), Net(xy, yz, xz), True)
        self.equal(Net(xy, yz), Net(most("x", "y", 7), xz, yz, xy, most("x", "z", 9)), True)
        self.equal(Net(xy, yz), Net(xy, yz, most("x", "z", 2)), False)
        self.equal(Net(xy, yz), Net(xy, xz, moments=("z",)), False)
        self.equal(Net(xy), Net(most("x", "y", 2)), False)
        self.equal(Net(xy), Net(most("y", "x", 1)), False)
        self.equal(Net(xy), Net(moments=("x", "y")), False)

    def test_other_moments(self):
        xy = most("x", "y", 1)
        self.equal(Net(xy), Net(xy, moments=("z",)), False)
        self.equal(Net(xy, moments=("z", "x")), Net(xy, moments=("z",)), True)
        self.equal(Net(), Net(moments=("z",)), False)
        self.equal(Net(*LOOP_RING), Net(*LOOP_RING, moments=("z",)), False)

    def test_inconsistent(self):
        self.equal(LOOP, Net(most("z", "y", -1), most("y", "z", 0), moments=("x",)), True)
        self.equal(LOOP, Net(*LOOP_RING[::-1], moments=("z",)), True)
        self.equal(LOOP, Net(most("x", "y", -1), most("x", "z", 0)), False)
        self.equal(LOOP, Net(moments=("x", "y", "z")), False)

    def test_equal_against_most(self):
        nets = [Net(*bounds, moments="wxyz") for bounds in some_nets(60, 0, 2)]
        for first, second in itertools.combinations(nets, 2):
            pairs = itertools.permutations("wxyz", 2)
            self.equal(first, second, all(first.most(x, y) == second.most(x, y) for x, y in pairs))

    def test_not_equal_to_other_kinds(self):
        net = Net(most("x", "y", 0))
        for value in [net.bounds, list(net.bounds), None, 1, True, "x", object()]:
            self.assertIs(net == value, False)
            self.assertIs(net != value, True)
        self.assertIs(net.__eq__(Stubborn()), False)
        self.assertIs(Net() == (), False)


if __name__ == "__main__":
    unittest.main()

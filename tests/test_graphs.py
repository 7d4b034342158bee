"""Ways, rings and totals in graphs, which points 13 to 21 rest on, against all short ways."""

import random
import unittest

from tests.plain import plain_reach, random_rows
from whoseday.graphs import (
    backward, components, cost_of, falling_ring, kept_inside, least_costs, part_of, reached_from, short_way, traced,
    turned_costs,
)
from whoseday.hubs import Hub
from whoseday.pieces import Days
from whoseday.rings import Rings, balanced_ring, cheapest_ring, stray_way
from whoseday.swings import shares
from whoseday.totals import Totals, short_blocks, slimmed

BOUND = 150
NEAR = 40


def reaches(rows):
    """For each node the nodes to which some steps, or none, lead from it."""
    found = []
    for start in range(len(rows)):
        seen = {start}
        line = [start]
        for node in line:
            for step in rows[node]:
                if step[0] not in seen:
                    seen.add(step[0])
                    line.append(step[0])
        found.append(seen)
    return found


def cost_between(rows, node, goal):
    costs = [step[1] for step in rows[node] if step[0] == goal]
    assert len(costs) == 1
    return costs[0]


def plain_cost(rows, way):
    return sum(cost_between(rows, one, other) for one, other in zip(way, way[1:]))


def closed_totals(rows, start, bound=60):
    """All costs within a bound of ways of one step or more from a node back to it."""
    order = [start, *[node for node in range(len(rows)) if node != start]]
    places = {node: place for place, node in enumerate(order)}
    turned = [[(places[goal], cost, "x") for goal, cost, *_ in rows[node]] for node in order]
    reach = plain_reach(turned, bound)
    return {days + cost for node, days in reach for goal, cost, _ in turned[node] if goal == 0}


class GraphsTest(unittest.TestCase):

    def test_components(self):
        rng = random.Random(1)
        for _ in range(300):
            rows = random_rows(rng)
            far = reaches(rows)
            found = components(rows)
            self.assertEqual(sorted(node for nodes in found for node in nodes), list(range(len(rows))))
            for at, nodes in enumerate(found):
                for node in nodes:
                    self.assertEqual({one for one in far[node] if node in far[one]}, set(nodes))
                    for earlier in found[:at]:
                        self.assertFalse(far[node] & set(earlier))

    def test_reached_and_short_ways(self):
        rng = random.Random(2)
        for _ in range(200):
            rows = random_rows(rng)
            far = reaches(rows)
            self.assertEqual([node for node, ok in enumerate(reached_from(rows, [0])) if ok], sorted(far[0]))
            self.assertEqual(
                [node for node, ok in enumerate(reached_from(backward(rows), [0])) if ok],
                [node for node in range(len(rows)) if 0 in far[node]],
            )
            copies = {}
            for (node, _), many in plain_reach(rows, BOUND).items():
                copies.setdefault(node, many)
            for goal in range(len(rows)):
                way = short_way(rows, 0, goal)
                self.assertEqual(way is not None, goal in far[0])
                if way is not None:
                    self.assertEqual((way[0], way[-1], len(way) - 1), (0, goal, copies[goal]))
                    self.assertEqual(cost_of(rows, way), plain_cost(rows, way))

    def test_parts(self):
        rows = [[(0, 5), (2, 7)], [(0, 1)], [(2, 3), (0, 4), (1, 9)]]
        self.assertEqual(part_of(rows, [2, 0]), [[(0, 3), (1, 4)], [(1, 5), (0, 7)]])
        self.assertEqual(kept_inside(rows, [True, False, True]), [[(0, 5), (2, 7)], [], [(2, 3), (0, 4)]])
        self.assertEqual(turned_costs(rows)[2], [(2, -3), (0, -4), (1, -9)])
        self.assertEqual(backward(rows), [[(0, 5), (1, 1), (2, 4)], [(2, 9)], [(0, 7), (2, 3)]])

    def test_rings_and_least_costs(self):
        rng = random.Random(3)
        falls = 0
        for _ in range(400):
            rows = random_rows(rng)
            ring = falling_ring(rows)
            low = [min(closed_totals(rows, node), default=0) for node in range(len(rows))]
            self.assertEqual(ring is not None, min(low) < 0)
            if ring is not None:
                falls += 1
                self.assertEqual(ring[0], ring[-1])
                self.assertLess(plain_cost(rows, ring), 0)
                self.assertEqual(len(set(ring)), len(ring) - 1)
                continue
            costs, before = least_costs(rows, 0)
            reach = plain_reach(rows, BOUND)
            for goal in range(len(rows)):
                wanted = min([days for node, days in reach if node == goal], default=None)
                self.assertEqual(costs[goal], wanted)
                if wanted is not None:
                    self.assertEqual(plain_cost(rows, traced(before, 0, goal)), wanted)
            way = cheapest_ring(rows, 0)
            closed = closed_totals(rows, 0)
            self.assertEqual(None if way is None else plain_cost(rows, way), min(closed, default=None))
            if way is not None:
                self.assertEqual((way[0], way[-1], len(way) > 1), (0, 0, True))
        self.assertGreater(falls, 100)

    def test_balanced_rings(self):
        rng = random.Random(4)
        done = 0
        while done < 150:
            rows = random_rows(rng, wide=rng.choice([3, 9]))
            far = reaches(rows)
            inside = kept_inside(rows, [0 in far[node] and node in far[0] for node in range(len(rows))])
            rising, falling = falling_ring(turned_costs(inside)), falling_ring(inside)
            if rising is None or falling is None:
                continue
            done += 1
            at, total, copies = 0, 0, 0
            for way, times in balanced_ring(inside, 0, rising, falling):
                self.assertGreaterEqual(times, 0)
                self.assertEqual(way[0], at)
                if times != 1:
                    self.assertEqual(way[-1], at)
                at = way[-1]
                total += times * plain_cost(rows, way)
                copies += times * (len(way) - 1)
            self.assertEqual((at, total), (0, 0))
            self.assertGreater(copies, 0)

    def test_ways_that_stray(self):
        rng = random.Random(12)
        lengths = {}
        for turn in range(1500):
            rows = random_rows(rng, most=rng.choice([4, 8]), wide=rng.choice([1, 3]))
            if turn % 2:
                # Here all rings cost nothing but for one step.
                heights = [rng.randint(-3, 3) for _ in rows]
                rows = [
                    [(goal, heights[goal] - heights[node], "x") for goal, _, _ in row] for node, row in enumerate(rows)
                ]
                node = rng.randrange(len(rows))
                rows[node] = [(goal, cost + (rng.random() < 0.3), "x") for goal, cost, _ in rows[node]]
            wanted = [node == 0 or rng.random() < 0.1 for node in range(len(rows))]
            way = stray_way(rows, wanted)
            found = [
                copies for (node, total), copies in plain_reach(rows, 60).items() if wanted[node] and (node, total) != (0, 0)
            ]
            self.assertEqual(None if way is None else len(way) - 1, min(found, default=None))
            if way is not None:
                self.assertEqual(way[0], 0)
                self.assertTrue(wanted[way[-1]])
                self.assertNotEqual((way[-1], plain_cost(rows, way)), (0, 0))
            length = None if way is None else len(way) - 1
            lengths[length] = lengths.get(length, 0) + 1
        self.assertTrue({None, 1, 2, 3, 4, 5, 6} <= set(lengths), lengths)

    def test_gaps(self):
        rng = random.Random(5)
        for _ in range(200):
            rows = random_rows(rng, most=6)
            rings = Rings(rows)
            for node in range(len(rows)):
                closed = closed_totals(rows, node, 100)
                near = [cost for cost in closed if abs(cost) <= 30]
                gap = rings.gap_of(node)
                self.assertTrue(all(cost % gap == 0 if gap else cost == 0 for cost in closed))
                self.assertEqual(rings.rising_at(node) is not None, any(cost > 0 for cost in near))
                self.assertEqual(rings.falling_at(node) is not None, any(cost < 0 for cost in near))
                if gap:
                    self.assertTrue(any(cost + gap in closed for cost in closed))
                for ring, sign in ((rings.rising_at(node), 1), (rings.falling_at(node), -1)):
                    if ring is not None:
                        self.assertGreater(sign * plain_cost(rows, ring), 0)
                        self.assertEqual(rings.groups[ring[0]], rings.groups[node])


class HubsTest(unittest.TestCase):

    def check(self, rows, nodes):
        hub = Hub(rows, nodes, Rings(part_of(rows, nodes)).gaps[0])
        steps = hub.chosen_steps()
        self.assertEqual(sorted(steps), sorted(nodes))
        for node, step in steps.items():
            self.assertGreaterEqual(step, 1)
            self.assertEqual(hub.turns(node, step, 0), [])
            for times in (1, 2, 10 ** 30):
                at, total = node, 0
                for way, turns in hub.turns(node, step, times):
                    self.assertEqual(way[0], at)
                    self.assertGreaterEqual(turns, 0)
                    if turns != 1:
                        self.assertEqual(way[-1], way[0])
                    at = way[-1]
                    total += turns * plain_cost(rows, way)
                self.assertEqual((at, total), (node, step * times))
        return steps

    def test_hubs_in_graphs_without_falling_steps(self):
        rng = random.Random(6)
        done = 0
        while done < 300:
            rows = [[(goal, abs(cost)) for goal, cost, _ in row] for row in random_rows(rng, most=9, wide=rng.choice([1, 3, 12]))]
            for nodes in components(rows):
                if any(plain_cost(rows, [node, step[0]]) for node in nodes for step in rows[node] if step[0] in nodes):
                    self.check(rows, nodes)
                    done += 1

    def test_a_long_ring_has_one_step(self):
        rows = [[((node + 1) % 50, 1 if node % 10 == 0 else 0)] for node in range(50)]
        self.assertEqual(set(self.check(rows, list(range(50))).values()), {5})

    def test_many_rings_of_unlike_costs(self):
        # A ring of each of many costs through one node.
        rows = [[(node, 0) for node in range(1, 60)], *[[(0, 100 + 7 * node)] for node in range(1, 60)]]
        steps = self.check(rows, list(range(60)))
        self.assertLessEqual(len(set(steps.values())), 59)

    def test_rings_that_have_no_steps_in_common(self):
        # No sum of two of these costs is another such sum, so that hardly two nodes have a step in common.
        costs = [1000 + more for more in (1, 2, 4, 8, 13, 21, 31, 45, 66, 81, 97, 123, 148, 182, 204, 252, 290, 361)]
        rows = [[(node, 0) for node in range(1, 19)], *[[(0, cost)] for cost in costs]]
        steps = self.check(rows, list(range(19)))
        self.assertEqual(sorted(set(steps.values())), costs)


class TotalsTest(unittest.TestCase):

    def check(self, rng, rows, groups, bound=BOUND):
        reach = plain_reach(rows, bound)
        for nodes in groups:
            totals = Totals(rows, nodes)
            days = Days(totals.all_pieces())
            wanted = {total for node, total in reach if node in nodes and abs(total) <= NEAR}
            self.assertEqual({total for total in range(-NEAR, NEAR + 1) if total in days}, wanted)
            asked = [rng.randint(-NEAR, NEAR) for _ in range(3)]
            asked += [sign * 10 ** 29 + rng.randint(0, 9) for sign in (1, -1)]
            for total in asked:
                blocks = totals.blocks(total)
                self.assertEqual(blocks is not None, total in days)
                if blocks is not None:
                    at, found = 0, 0
                    for way, times in blocks:
                        self.assertEqual(way[0], at)
                        self.assertGreaterEqual(times, 0)
                        if times != 1:
                            self.assertEqual(way[-1], way[0])
                        at = way[-1]
                        found += times * plain_cost(rows, way)
                    self.assertEqual(found, total)
                    self.assertIn(at, nodes)

    def test_against_all_ways(self):
        rng = random.Random(7)
        for _ in range(250):
            rows = random_rows(rng, wide=rng.choice([1, 2, 3, 7]))
            self.check(rng, rows, [[node] for node in range(len(rows))] + [list(range(0, len(rows), 2))])

    def test_rings_with_great_gaps(self):
        # All rings cost multiples of a number, but ways from node to node do not.
        rng = random.Random(11)
        for _ in range(150):
            factor = rng.choice([3, 5, 7])
            rows = random_rows(rng, most=6, wide=2)
            heights = [rng.randint(-6, 6) for _ in rows]
            rows = [
                [(goal, factor * cost + heights[goal] - heights[node], "x") for goal, cost, _ in row]
                for node, row in enumerate(rows)
            ]
            self.check(rng, rows, [[node] for node in range(len(rows))] + [list(range(0, len(rows), 2))], 500)

    def test_two_rings_one_behind_the_other(self):
        for one, other in [(6, 4), (5, 3), (6, -4), (-6, -9), (7, 0), (0, 7), (1, 12), (6, -9), (-10, 15), (9, -9), (4, -6)]:
            rows = [((0, one, "x"), (1, 1, "x")), ((1, other, "x"), (2, 2, "x")), ()]
            self.check(random.Random(8), rows, [[0], [1], [2], [0, 1, 2], []])

    def test_ways_that_are_gone_often_are_told_once(self):
        way = [0, 1, 2] * 1000 + [0, 3, 3, 3, 3, 4]
        blocks = short_blocks([(way, 1), ([4, 4], 7)])
        names = [step for part, times in blocks for _ in range(times) for step in part[1:]]
        self.assertEqual([0, *names], way + [4] * 7)
        self.assertLess(sum(len(part) - 1 for part, _ in blocks), 12)
        for part, times in blocks:
            self.assertTrue(times == 1 or part[0] == part[-1])

    def test_slimmed_pieces(self):
        self.assertEqual(
            slimmed([("up", 7, 6), ("one", 10), ("up", 1, 3), ("one", 2), ("one", 2), ("up", 4, 3), ("down", 0, 2), ("one", -4)]),
            [("up", 1, 3), ("down", 0, 2), ("one", 2)],
        )
        self.assertEqual(slimmed([("up", 7, 2), ("every", 1, 2), ("down", 8, 2), ("one", 3)]), [("every", 1, 2), ("down", 8, 2)])
        rng = random.Random(9)
        for _ in range(200):
            pieces = []
            for _ in range(rng.randint(0, 8)):
                word = rng.choice(["one", "up", "down", "every"])
                start = rng.randint(-9, 9)
                pieces.append((word, start) if word == "one" else (word, start, rng.randint(1, 6)))
            self.assertTrue(Days.same(Days(pieces), Days(slimmed(pieces)), -100, 100))


class SharesTest(unittest.TestCase):

    def test_shares_make_the_total(self):
        rng = random.Random(10)
        for _ in range(300):
            costs = [rng.choice([-1, 1]) * rng.randint(1, 60) for _ in range(rng.randint(0, 4))]
            costs += [rng.randint(1, 60), -rng.randint(1, 60)]
            rng.shuffle(costs)
            total = sum(cost * rng.choice([0, 1, -7, 10 ** 30, -10 ** 30]) for cost in costs)
            times = shares(costs, total)
            self.assertTrue(all(many >= 0 for many in times))
            self.assertEqual(sum(cost * many for cost, many in zip(costs, times)), total)


if __name__ == "__main__":
    unittest.main()

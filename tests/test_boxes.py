"""Boxes: [3], [20] and the interface of ballastbook/boxes.py."""

import itertools
import unittest

from ballastbook.boxes import around, good_box, inside, shared

GREAT = 10 ** 60


def replaced(box, changes):
    return tuple(changes.get(at, number) for at, number in enumerate(box))


def held(box, reach):
    """All spots that the box holds, by the words of [3], of a small field."""
    x1, y1, x2, y2, low, high = box
    return {(x, y, height) for x, y, height in itertools.product(reach, repeat=3)
            if x in range(x1, x2 + 1) and y in range(y1, y2 + 1) and height in range(low, high + 1)}


class GoodBox(unittest.TestCase):
    def test_the_greatest_box(self):
        self.assertIs(good_box((-999, -999, 999, 999, 0, 5)), True)

    def test_one_place_and_one_height(self):
        for x, y, height in itertools.product((-999, -1, 0, 7, 999), (-999, 0, 999), range(6)):
            self.assertIs(good_box((x, y, x, y, height, height)), True)

    def test_one_beyond_each_bound(self):
        widest = (-999, -999, 999, 999, 0, 5)
        for at, number in enumerate((-1000, -1000, 1000, 1000, -1, 6)):
            self.assertIs(good_box(replaced(widest, {at: number})), False, at)

    def test_both_ends_beyond_a_bound(self):
        middle = (-3, -3, 3, 3, 2, 3)
        for at, beyond in ((0, -1000), (0, 1000), (1, -1000), (1, 1000)):
            self.assertIs(good_box(replaced(middle, {at: beyond, at + 2: beyond})), False)
        for beyond in (-1, 6):
            self.assertIs(good_box(replaced(middle, {4: beyond, 5: beyond})), False)

    def test_each_pair_running_backwards(self):
        middle = (0, 0, 0, 0, 2, 2)
        self.assertIs(good_box(middle), True)
        for at in (0, 1, 4):
            self.assertIs(good_box(replaced(middle, {at: middle[at] + 1})), False, at)
        for at in (2, 3, 5):
            self.assertIs(good_box(replaced(middle, {at: middle[at] - 1})), False, at)

    def test_pairs_running_backwards_as_far_as_can_be(self):
        self.assertIs(good_box((999, 0, -999, 0, 0, 5)), False)
        self.assertIs(good_box((0, 999, 0, -999, 0, 5)), False)
        self.assertIs(good_box((0, 0, 0, 0, 5, 0)), False)

    def test_very_great_numbers(self):
        middle = (-3, -3, 3, 3, 2, 3)
        for at, great in itertools.product(range(6), (GREAT, -GREAT)):
            self.assertIs(good_box(replaced(middle, {at: great})), False, (at, great))
        self.assertIs(good_box((-GREAT, -GREAT, GREAT, GREAT, -GREAT, GREAT)), False)
        self.assertIs(good_box((GREAT,) * 6), False)

    def test_by_the_words_of_the_document(self):
        for x1, x2 in itertools.product((-1000, -999, -998, 0, 998, 999, 1000), repeat=2):
            good = x1 >= -999 and x2 <= 999 and not x1 > x2
            self.assertIs(good_box((x1, 0, x2, 0, 0, 0)), good, (x1, x2))
            self.assertIs(good_box((0, x1, 0, x2, 0, 0)), good, (x1, x2))
        for low, high in itertools.product(range(-2, 8), repeat=2):
            good = low >= 0 and high <= 5 and not low > high
            self.assertIs(good_box((0, 0, 0, 0, low, high)), good, (low, high))


class Inside(unittest.TestCase):
    def each_bound(self, box):
        middle = ((box[0] + box[2]) // 2, (box[1] + box[3]) // 2, (box[4] + box[5]) // 2)
        for at, (first, last) in enumerate(((0, 2), (1, 3), (4, 5))):
            for number, answer in (
                (box[first] - 1, False), (box[first], True), (box[first] + 1, True),
                (box[last] - 1, True), (box[last], True), (box[last] + 1, False),
            ):
                spot = replaced(middle, {at: number})
                self.assertIs(inside(box, *spot), answer, (box, spot))

    def test_at_and_beside_each_bound(self):
        self.each_bound((-3, -2, 4, 6, 1, 4))

    def test_far_away(self):
        self.each_bound((-2000, -2000, 2000, 2000, 0, 5))
        self.each_bound((-2000, 1500, -1998, 2000, 0, 2))
        self.each_bound((1990, -2000, 2000, -1990, 3, 5))

    def test_one_place_and_one_height(self):
        for x, y, height in ((0, 0, 0), (-2000, 2000, 5), (17, -40, 3)):
            box = (x, y, x, y, height, height)
            for dx, dy, up in itertools.product((-1, 0, 1), repeat=3):
                answer = (dx, dy, up) == (0, 0, 0)
                self.assertIs(inside(box, x + dx, y + dy, height + up), answer)

    def test_x_and_y_are_not_mixed_up(self):
        box = (0, 10, 5, 15, 0, 5)
        self.assertIs(inside(box, 3, 12, 2), True)
        self.assertIs(inside(box, 12, 3, 2), False)


class Shared(unittest.TestCase):
    def both_ways(self, one, other, answer):
        self.assertEqual(shared(one, other), answer)
        self.assertEqual(shared(other, one), answer)

    def test_over_one_another(self):
        self.both_ways((0, 0, 10, 10, 0, 3), (5, -4, 20, 6, 2, 5), (5, 0, 10, 6, 2, 3))

    def test_crossing(self):
        self.both_ways((-10, 0, 10, 1, 0, 5), (0, -10, 1, 10, 2, 3), (0, 0, 1, 1, 2, 3))

    def test_one_within_another(self):
        outer, inner = (-2000, -2000, 2000, 2000, 0, 5), (-3, 4, -1, 9, 1, 2)
        self.both_ways(outer, inner, inner)

    def test_a_box_with_itself(self):
        for box in ((0, 0, 0, 0, 0, 0), (-2000, -2000, 2000, 2000, 0, 5), (-5, 2, 9, 3, 1, 4)):
            self.both_ways(box, box, box)

    def test_an_edge_in_common(self):
        self.both_ways((0, 0, 5, 5, 0, 5), (5, 0, 9, 5, 0, 5), (5, 0, 5, 5, 0, 5))
        self.both_ways((0, 0, 5, 5, 0, 5), (0, 5, 5, 9, 0, 5), (0, 5, 5, 5, 0, 5))

    def test_a_corner_in_common(self):
        self.both_ways((0, 0, 5, 5, 0, 2), (5, 5, 9, 9, 2, 5), (5, 5, 5, 5, 2, 2))
        self.both_ways((0, 0, 5, 5, 0, 5), (-4, 5, 0, 9, 0, 5), (0, 5, 0, 5, 0, 5))

    def test_a_height_in_common(self):
        self.both_ways((0, 0, 5, 5, 0, 3), (0, 0, 5, 5, 3, 5), (0, 0, 5, 5, 3, 3))

    def test_next_to_one_another(self):
        box = (0, 0, 5, 5, 0, 2)
        for other in ((6, 0, 9, 5, 0, 2), (0, 6, 5, 9, 0, 2), (0, 0, 5, 5, 3, 5)):
            self.assertIsNone(shared(box, other))
            self.assertIsNone(shared(other, box))

    def test_far_from_one_another(self):
        one, other = (-2000, -2000, -1990, -1990, 0, 0), (1990, 1990, 2000, 2000, 5, 5)
        self.assertIsNone(shared(one, other))
        self.assertIsNone(shared(other, one))

    def test_it_holds_just_what_both_hold(self):
        ends = [(first, last) for first in range(3) for last in range(first, 3)]
        boxes = [(x1, y1, x2, y2, low, high)
                 for (x1, x2), (y1, y2), (low, high) in itertools.product(ends, repeat=3)]
        holds = {box: held(box, range(-1, 4)) for box in boxes}
        for one, other in itertools.product(boxes, repeat=2):
            common = holds[one] & holds[other]
            answer = shared(one, other)
            if not common:
                self.assertIsNone(answer, (one, other))
            else:
                self.assertEqual(holds[answer], common, (one, other))


class Around(unittest.TestCase):
    def test_no_spot(self):
        self.assertIsNone(around([]))

    def test_one_spot(self):
        for x, y, height in ((0, 0, 0), (-7, 12, 5), (2000, -2000, 3)):
            self.assertEqual(around([(x, y, height)]), (x, y, x, y, height, height))

    def test_several_alike(self):
        self.assertEqual(around([(4, -9, 2)] * 3), (4, -9, 4, -9, 2, 2))

    def test_several_in_one_line(self):
        self.assertEqual(around([(3, 1, 2), (-5, 1, 2), (8, 1, 2)]), (-5, 1, 8, 1, 2, 2))
        self.assertEqual(around([(1, 3, 2), (1, -5, 2), (1, 8, 2)]), (1, -5, 1, 8, 2, 2))
        self.assertEqual(around([(1, 3, 4), (1, 3, 0), (1, 3, 2)]), (1, 3, 1, 3, 0, 4))

    def test_below_nought(self):
        spots = [(-2, -30, 1), (-9, -4, 3), (-5, -17, 2)]
        self.assertEqual(around(spots), (-9, -30, -2, -4, 1, 3))

    def test_each_bound_of_another_spot(self):
        spots = [(-1, 0, 2), (0, -2, 2), (3, 0, 2), (0, 4, 2), (0, 0, 1), (0, 0, 5)]
        for order in itertools.permutations(spots):
            self.assertEqual(around(list(order)), (-1, -2, 3, 4, 1, 5))

    def test_the_list_stays_as_it_was(self):
        spots = [(5, 5, 5), (-1, 2, 0), (5, 5, 5)]
        before = list(spots)
        around(spots)
        self.assertEqual(spots, before)

    def test_a_list_changed_behind_a_call(self):
        spots = [(1, 1, 1)]
        told = around(spots)
        spots.append((9, 9, 5))
        self.assertEqual(told, (1, 1, 1, 1, 1, 1))
        self.assertEqual(around(spots), (1, 1, 9, 9, 1, 5))
        self.assertEqual(around([(1, 1, 1)]), (1, 1, 1, 1, 1, 1))


if __name__ == "__main__":
    unittest.main()

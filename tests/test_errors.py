import unittest

from digitways.errors import NoDigits, NoNote, NoRow, NoWay, WayError

REFUSALS = {
    NoWay: lambda: NoWay("words"),
    NoRow: lambda: NoRow("words"),
    NoDigits: lambda: NoDigits([1, 2]),
    NoNote: lambda: NoNote("words"),
}


class ClassesTest(unittest.TestCase):

    def test_way_error_stands_straight_under_value_error(self):
        self.assertEqual(WayError.__bases__, (ValueError,))

    def test_each_refusal_stands_straight_under_way_error(self):
        for refusal in REFUSALS:
            with self.subTest(refusal=refusal):
                self.assertEqual(refusal.__bases__, (WayError,))

    def test_no_refusal_stands_under_a_sister(self):
        for refusal in REFUSALS:
            for sister in REFUSALS:
                with self.subTest(refusal=refusal, sister=sister):
                    self.assertEqual(issubclass(refusal, sister), refusal is sister)

    def test_each_refusal_is_taken_by_its_own_name_and_those_above(self):
        for refusal, made in REFUSALS.items():
            for taken in (refusal, WayError, ValueError):
                with self.subTest(refusal=refusal, taken=taken):
                    with self.assertRaises(taken):
                        raise made()


class NoDigitsTest(unittest.TestCase):

    def test_bears_the_ring_it_was_made_with(self):
        for ring in ([-1], [4, 5], [-17, -12, -4, -13, -16], [10 ** 40]):
            with self.subTest(ring=ring):
                error = NoDigits(ring)
                self.assertIs(type(error.ring), list)
                self.assertEqual(error.ring, ring)

    def test_bears_it_when_taken(self):
        for taken in (NoDigits, WayError, ValueError):
            with self.subTest(taken=taken):
                with self.assertRaises(taken) as caught:
                    raise NoDigits([4, 5])
                self.assertEqual(caught.exception.ring, [4, 5])

    def test_a_later_change_of_the_list_handed_in_does_not_show(self):
        ring = [4, 5]
        error = NoDigits(ring)
        ring.append(6)
        self.assertEqual(error.ring, [4, 5])

    def test_the_list_handed_in_stays_and_is_not_kept_anywhere(self):
        ring = [4, 5]
        error = NoDigits(ring)
        error.ring.append(6)
        self.assertEqual(ring, [4, 5])
        self.assertFalse(any(kept is ring for kept in error.args))

    def test_two_made_with_one_list_bear_two(self):
        ring = [4, 5]
        one = NoDigits(ring)
        other = NoDigits(ring)
        one.ring.append(6)
        self.assertEqual(other.ring, [4, 5])


if __name__ == "__main__":
    unittest.main()

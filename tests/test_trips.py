"""Tests of cabmeters.trips: points [5], [6] and [7]."""

import itertools
import re
import unittest

from cabmeters.errors import BadText, BadTrip
from cabmeters.trips import as_text, fastest, from_text, is_speed, is_trip, stops, way_of, ways_of
from tests.samples import HUGE, check_given, no_integers, no_strings

LONGEST = "0123456789" * 200
WRONG_STRINGS = (
    "5a", "a", " ", "5 ", " 5", "5 5", "\n", "5\n", "\n5", "-5", "+5", "5.0", "5_5", "0x5", "3x5", "1e3", "~", "/", ":",
    "0" * 2001, "5" * 2100, "0" * 9000, "5" * 1999 + "x", LONGEST + "0", "\u0665", "\u00b2", "5\uff15",
)
NO_TEXTS = (
    " ", "  ", "\n", "x", "3", "3x", "x5", "5", "55", "35", "00",
    # a needless zero, a number of ticks of 0, signs
    "03x5", "003x5", "0x5", "00x5", "3x05", "3x00", "-3x5", "+3x5", "3x-5", "3x+5", "3_0x5", "1.x5", "1e2x5",
    # blanks
    " 3x5", "3x5 ", "3x5  2x0", " 3x5 2x0", "3x5 2x0 ", "3 x5", "3x 5", "3x5\n", "\n3x5", "3x5\n2x0", "3x52x0",
    "3x5,2x0", "3x5, 2x0", "3x5\t2x0",
    # two stretches of one speed one behind the other
    "3x5 2x5", "1x0 1x0", "2x0 3x5 1x5", "1x1 2x2 2x2 1x1",
    # another sign, another speed
    "3X5", "3*5", "3 5", "3y5", "3xx5", "3x5x", "3x5x2", "3x10", "3x55", "3xa", "ax5", "3x5 2", "3x5 x", "3x5 2x",
    "3x5 x0", "3x5 0x0", "3x5 02x0", "3x", "x 3x5", "3x~", "3x\u0665", "\u0663x5", "3x\u00b2", "\u00b2x5",
    # too many ticks
    "2001x5", "2001x0", "10000x5", "1000x5 1001x4", "2000x5 1x4", "1x4 2000x5", "20000x1", "9" * 2000 + "x5",
    "9" * 5000 + "x5", "1x5 " + "9" * 30 + "x4",
)


def texts_by_pattern(texts):
    """Return those of some texts that are short texts of trips, found in another way than the program's."""
    good = []
    for text in texts:
        pieces = re.findall(r"([1-9][0-9]*)x([0-9])(?: (?=[0-9])|\Z)", text)
        whole = " ".join([f"{many}x{speed}" for many, speed in pieces]) == text
        unlike = all(one[1] != next_one[1] for one, next_one in itertools.pairwise(pieces))
        if whole and unlike and sum(int(many) for many, _ in pieces) <= 2000:
            good.append(text)
    return good


class KindsTest(unittest.TestCase):
    def test_trips(self):
        for trip in ("", "0", "9", "0550", "0123456789", "0" * 1999, "9" * 2000, LONGEST):
            with self.subTest(trip=trip):
                self.assertIs(is_trip(trip), True)

    def test_every_digit_and_no_other_sign(self):
        for code in range(128):
            with self.subTest(code=code):
                self.assertIs(is_trip(chr(code)), chr(code) in "0123456789")
                self.assertIs(is_trip("5" + chr(code)), chr(code) in "0123456789")
                self.assertIs(is_trip(chr(code) + "5"), chr(code) in "0123456789")

    def test_no_trips(self):
        for value in list(WRONG_STRINGS) + no_strings():
            with self.subTest(value=value):
                self.assertIs(is_trip(value), False)

    def test_speeds(self):
        for value in range(-20, 30):
            with self.subTest(value=value):
                self.assertIs(is_speed(value), 0 <= value <= 9)

    def test_no_speeds(self):
        for value in no_integers() + [HUGE, -HUGE, 100, "7", [7], (7,)]:
            with self.subTest(value=value):
                self.assertIs(is_speed(value), False)


class WaysTest(unittest.TestCase):
    def test_way(self):
        self.assertEqual(way_of("0553"), 13)
        self.assertEqual(way_of(""), 0)
        self.assertEqual(way_of("000"), 0)
        self.assertEqual(way_of("0123456789"), 45)
        self.assertEqual(way_of("9" * 2000), 18000)

    def test_ways(self):
        self.assertEqual(ways_of("053"), [0, 0, 5, 8])
        self.assertEqual(ways_of(""), [0])
        self.assertEqual(ways_of("0"), [0, 0])
        self.assertEqual(ways_of("9"), [0, 9])
        self.assertEqual(ways_of("9" * 2000), list(range(0, 18001, 9)))

    def test_fastest(self):
        for trip, speed in (("053", 5), ("", 0), ("0", 0), ("000", 0), ("9", 9), ("1239", 9), ("9321", 9), ("121", 2)):
            with self.subTest(trip=trip):
                self.assertEqual(fastest(trip), speed)
        self.assertEqual(fastest("1" * 1999 + "8"), 8)

    def test_stops(self):
        for trip, told in (
            ("0050", [(0, 2), (3, 4)]),
            ("", []),
            ("0", [(0, 1)]),
            ("5", []),
            ("1234567899", []),
            ("500", [(1, 3)]),
            ("005", [(0, 2)]),
            ("000", [(0, 3)]),
            ("0" * 2000, [(0, 2000)]),
            ("5001", [(1, 3)]),
            ("01020", [(0, 1), (2, 3), (4, 5)]),
            ("9" + "0" * 1998 + "9", [(1, 1999)]),
            ("05" * 1000, [(tick, tick + 1) for tick in range(0, 2000, 2)]),
        ):
            with self.subTest(trip=trip):
                self.assertEqual(stops(trip), told)

    def test_stops_of_all_short_trips(self):
        for length in range(8):
            for digits in itertools.product("017", repeat=length):
                trip = "".join(digits)
                self.assertEqual(stops(trip), [found.span() for found in re.finditer("0+", trip)])

    def test_wrong_trips(self):
        for call in (way_of, ways_of, fastest, stops, as_text):
            for value in list(WRONG_STRINGS) + no_strings():
                check_given(self, BadTrip, value, call, value)

    def test_returned_lists_are_new(self):
        for call in (ways_of, stops):
            first = call("0050")
            again = call("0050")
            self.assertIsNot(first, again)
            first.append(7)
            first[0] = None
            self.assertEqual(call("0050"), again)

    def test_kinds_of_results(self):
        self.assertIs(type(way_of("5")), int)
        self.assertIs(type(fastest("5")), int)
        self.assertTrue(all(type(way) is int for way in ways_of("503")))
        self.assertTrue(all(type(stop) is tuple for stop in stops("503")))


class TextsTest(unittest.TestCase):
    def test_texts(self):
        for trip, text in (
            ("", ""),
            ("55500", "3x5 2x0"),
            ("0", "1x0"),
            ("9", "1x9"),
            ("00333333333333", "2x0 12x3"),
            ("0123456789", "1x0 1x1 1x2 1x3 1x4 1x5 1x6 1x7 1x8 1x9"),
            ("11211", "2x1 1x2 2x1"),
            ("0" * 2000, "2000x0"),
            ("7" * 999 + "1" * 1001, "999x7 1001x1"),
            ("4" * 10 + "5" * 100 + "4" * 1890, "10x4 100x5 1890x4"),
            ("1" * 11, "11x1"),
        ):
            with self.subTest(text=text):
                self.assertEqual(as_text(trip), text)
                self.assertEqual(from_text(text), trip)

    def test_longest_text(self):
        # This text has 7999 characters: what the package returns may be passed in again.
        trip = "05" * 1000
        text = " ".join(["1x0 1x5"] * 1000)
        self.assertEqual(as_text(trip), text)
        self.assertEqual(from_text(text), trip)
        for longer in (text + " 1x0", text[:-3] + "2x5", text + " ", " " + text, text.replace("x", "1x", 1)):
            check_given(self, BadText, longer, from_text, longer)

    def test_all_short_trips_there_and_back(self):
        for length in range(7):
            for digits in itertools.product("059", repeat=length):
                trip = "".join(digits)
                text = as_text(trip)
                self.assertEqual(from_text(text), trip)
                self.assertEqual(texts_by_pattern([text]), [text])

    def test_all_short_texts(self):
        texts = ["".join(signs) for length in range(8) for signs in itertools.product("012x ", repeat=length)]
        good = dict.fromkeys(texts_by_pattern(texts))
        self.assertIn("1x2 1x0", good)
        self.assertIn("2000x2", good)
        self.assertNotIn("2001x2", good)
        for text in texts:
            if text in good:
                self.assertEqual(as_text(from_text(text)), text)
            else:
                self.assertRaises(BadText, from_text, text)

    def test_wrong_texts(self):
        for value in list(NO_TEXTS) + no_strings():
            check_given(self, BadText, value, from_text, value)


if __name__ == "__main__":
    unittest.main()

"""Labels and keys as byte strings ([12])."""

import bisect
import random
import time
import unittest

from forestrows.errors import NoKey, NoLabel
from forestrows.forests import Forest
from forestrows.labels import bytes_of, is_key, labels_between, numbers_of, split_key

EVEN = bytes(range(2, 256, 2))
ODD = bytes(range(1, 256, 2))
NO_BYTES = [None, True, 0, 2, "", "a", "\x02", [2], (2,), [b"\x02"], {}, {2: 2}, bytearray(b"\x02"), range(1), bytes,
            Forest([])]


def all_labels(length):
    """All labels of a length, ascending."""
    starts = [b""]
    for _ in range(length - 1):
        starts = [start + bytes([byte]) for start in starts for byte in ODD]
    return [start + bytes([byte]) for start in starts for byte in EVEN]


LABELS = [all_labels(length) for length in (1, 2, 3)]


def searched(low, high, count):
    """The labels that labels_between returns, by a search through all labels of up to three bytes, or None."""
    found = []
    for labels in LABELS:
        start = 0 if low is None else bisect.bisect_right(labels, low)
        end = len(labels) if high is None else bisect.bisect_left(labels, high)
        found += labels[start:min(end, start + count - len(found))]
    return sorted(found) if len(found) == count else None


def is_label(x):
    return len(x) > 0 and x[-1] in EVEN and all(byte in ODD for byte in x[:-1])


class Keys(unittest.TestCase):
    def place(self, call, given):
        with self.assertRaises(NoKey) as caught:
            call(given)
        return caught.exception.place

    def test_split_key(self):
        for labels in ([b"\x02"], [b"\x02", b"\x03\x04"], [b"\xff\xfe", b"\x01\x01\x01\x02", b"\xfe"],
                       [b"\x02"] * 60, [b"\x01" * 999 + b"\x04", b"\xff" * 999 + b"\xfe"]):
            self.assertEqual(split_key(b"".join(labels)), labels)
            self.assertTrue(is_key(b"".join(labels)))

    def test_split_joined_labels_of_all_kinds(self):
        rng = random.Random(1)
        for _ in range(500):
            labels = [rng.choice(rng.choice(LABELS)) for _ in range(rng.randrange(1, 9))]
            self.assertEqual(split_key(b"".join(labels)), labels)

    def test_every_byte(self):
        for byte in range(256):
            if byte == 0:
                self.assertEqual(self.place(split_key, bytes([byte])), 0)
            elif byte % 2:
                self.assertEqual(self.place(split_key, bytes([byte])), 1)
                self.assertEqual(split_key(bytes([byte, 2])), [bytes([byte, 2])])
            else:
                self.assertEqual(split_key(bytes([byte])), [bytes([byte])])
                self.assertEqual(split_key(bytes([byte, 2])), [bytes([byte]), b"\x02"])

    def test_what_is_no_byte_string(self):
        for thing in [*NO_BYTES, b""]:
            self.assertEqual(self.place(split_key, thing), -1)
            self.assertIs(is_key(thing), False)

    def test_the_first_zero(self):
        for key, place in ((b"\x00", 0), (b"\x02\x00", 1), (b"\x02\x00\x00", 1), (b"\x03\x00\x03", 1),
                           (b"\x00\x03", 0), (b"\x02\x04\x06\x00", 3), (b"\x02" * 1999 + b"\x00", 1999)):
            self.assertEqual(self.place(split_key, key), place)
            self.assertIs(is_key(key), False)

    def test_an_odd_end(self):
        for key, place in ((b"\x01", 1), (b"\x02\x01", 2), (b"\xff\xff", 2), (b"\x02" * 1999 + b"\xff", 2000)):
            self.assertEqual(self.place(split_key, key), place)
            self.assertIs(is_key(key), False)

    def test_bytes_of(self):
        for numbers in ([], [0], [255], [1, 2, 3], list(range(256)), [2] * 2000):
            self.assertEqual(bytes_of(numbers), bytes(numbers))
            self.assertEqual(bytes_of(tuple(numbers)), bytes(numbers))
        numbers = [1, 2]
        bytes_of(numbers)
        self.assertEqual(numbers, [1, 2])

    def test_bytes_of_no_sequence(self):
        for thing in (None, True, 0, 3, "", "ab", b"", b"ab", {}, {1: 2}, range(3), Forest([]), bytes):
            self.assertEqual(self.place(bytes_of, thing), -1)

    def test_bytes_of_no_byte(self):
        for thing in (-1, 256, 10 ** 40, True, False, None, "1", b"1", [1], (), {}):
            for before in range(4):
                for behind in ([], [thing], [-1, 256]):
                    self.assertEqual(self.place(bytes_of, [0, 255, 7][:before] + [thing] + behind), min(before, 3))
                    self.assertEqual(self.place(bytes_of, (0, 255, 7)[:before] + (thing,)), min(before, 3))

    def test_numbers_of(self):
        for numbers in ([], [0], [255], list(range(256))):
            self.assertEqual(numbers_of(bytes(numbers)), numbers)
            self.assertIs(type(numbers_of(bytes(numbers))), list)
        for thing in NO_BYTES:
            self.assertEqual(self.place(numbers_of, thing), -1)

    def test_each_list_is_new(self):
        for call, given in ((split_key, b"\x02\x04"), (numbers_of, b"ab")):
            first = call(given)
            kept = list(first)
            first.append(None)
            self.assertEqual(call(given), kept)

    def test_by_keyword(self):
        self.assertEqual(split_key(key=b"\x02"), [b"\x02"])
        self.assertEqual(bytes_of(numbers=[2]), b"\x02")
        self.assertEqual(numbers_of(data=b"\x02"), [2])


class Between(unittest.TestCase):
    def check(self, low, high, count):
        found = labels_between(low, high, count)
        self.assertIs(type(found), list)
        wanted = searched(low, high, count)
        if wanted is not None:
            self.assertEqual(found, wanted, (low, high, count))
        self.assertEqual((len(found), found), (count, sorted(set(found))))
        for label in found:
            self.assertTrue(is_label(label))
            self.assertTrue((low is None or low < label) and (high is None or label < high))

    def test_examples(self):
        self.assertEqual(labels_between(b"\x02", b"\x04", 2), [b"\x03\x02", b"\x03\x04"])
        self.assertEqual(labels_between(None, None, 3), [b"\x02", b"\x04", b"\x06"])
        self.assertEqual(labels_between(None, b"\x02", 1), [b"\x01\x02"])
        self.assertEqual(labels_between(b"\xfe", None, 2), [b"\xff\x02", b"\xff\x04"])
        self.assertEqual(labels_between(b"\xfc", None, 2), [b"\xfd\x02", b"\xfe"])
        self.assertEqual(labels_between(None, b"\x04", 2), [b"\x01\x02", b"\x02"])

    def test_without_bounds(self):
        for count in range(201):
            self.check(None, None, count)
        self.assertEqual(labels_between(None, None, 127), [bytes([byte]) for byte in EVEN])
        self.assertEqual(len(labels_between(None, None, 128)[0]), 2)

    def test_with_one_bound_of_one_byte(self):
        for byte in EVEN:
            for count in (0, 1, 2, 3, 63, 126, 127, 128, 200):
                self.check(bytes([byte]), None, count)
                self.check(None, bytes([byte]), count)

    def test_between_all_labels_of_one_byte(self):
        for low in EVEN:
            for high in EVEN:
                if low < high:
                    for count in (1, 2, 130):
                        self.check(bytes([low]), bytes([high]), count)

    def test_between_some_labels(self):
        rng = random.Random(2)
        edges = [b"\x02", b"\xfe", b"\x01\x02", b"\x01\xfe", b"\xff\x02", b"\xff\xfe", b"\x01\x01\x02",
                 b"\x01\x01\xfe", b"\x01\xff\xfe", b"\xff\x01\x02", b"\xff\xff\x02", b"\xff\xff\xfe", b"\x03\xff\xfe",
                 b"\x05\x01\x02", None]
        bounds = edges + [rng.choice(labels) for labels in LABELS for _ in range(25)]
        for low in bounds:
            for high in bounds:
                if low is None or high is None or low < high:
                    self.check(low, high, rng.choice([0, 1, 2, 5, 126, 127, 128, 199, 200]))

    def test_neighbours(self):
        for labels in LABELS:
            for place in range(0, min(len(labels) - 1, 300000), 1009):
                self.check(labels[place], labels[place + 1], place % 140)

    def test_the_search_itself_against_one_without_halving(self):
        for low, high in ((b"\x02", b"\x04"), (b"\x05\x01\x02", b"\x05\x02"), (None, b"\x01\x01\x06"),
                          (b"\xff\xff\xf0", None)):
            found = [label for labels in LABELS for label in labels
                     if (low is None or low < label) and (high is None or label < high)]
            self.assertEqual(searched(low, high, min(3, len(found))), sorted(found[:3]))

    def test_long_bounds(self):
        longest = [b"\x01" * 999 + b"\x02", b"\x01" * 999 + b"\xfe", b"\x01" * 998 + b"\x03\x02",
                   b"\x7f" * 999 + b"\x80", b"\xff" * 998 + b"\x01\x02", b"\xff" * 999 + b"\x02",
                   b"\xff" * 999 + b"\xfc", b"\xff" * 999 + b"\xfe"]
        start = time.perf_counter()
        for place, high in enumerate([*longest, None]):
            for low in [None, *longest[:place]]:
                for count in (0, 1, 127, 128, 200):
                    found = labels_between(low, high, count)
                    self.assertEqual((len(found), found), (count, sorted(set(found))))
                    for label in found:
                        self.assertTrue((low is None or low < label) and (high is None or label < high))
        self.assertLess(time.perf_counter() - start, 20)

    def test_labels_behind_long_bounds(self):
        ends = [bytes([byte]) for byte in EVEN]
        self.assertEqual(labels_between(b"\xff" * 999 + b"\xfc", None, 128),
                         [b"\xff" * 999 + b"\xfd" + end for end in ends] + [b"\xff" * 999 + b"\xfe"])
        self.assertEqual(labels_between(b"\xff" * 999 + b"\xfe", None, 127), [b"\xff" * 1000 + end for end in ends])
        self.assertEqual(labels_between(None, b"\x01" * 999 + b"\x02", 127), [b"\x01" * 1000 + end for end in ends])
        self.assertEqual(labels_between(b"\x05" * 999 + b"\x06", b"\x05" * 999 + b"\x08", 1),
                         [b"\x05" * 999 + b"\x07\x02"])
        self.assertEqual(labels_between(b"\x05" * 999 + b"\x06", b"\x07\x02", 2), [b"\x05\x06", b"\x06"])
        self.assertEqual(labels_between(b"\x05" * 999 + b"\x06", b"\x05\x07\x02", 2),
                         [b"\x05\x05\x06", b"\x05\x06"])

    def test_lengths_of_a_long_step(self):
        low, high = b"\x01" * 500 + b"\x02", b"\x01" * 500 + b"\x03\x02"
        self.assertEqual(labels_between(low, high, 1), [b"\x01" * 500 + b"\x03\x01\x02"])

    def test_long_bounds_that_begin_alike(self):
        # What lies between two labels begins with the odd bytes with which both begin.
        rng = random.Random(3)
        for start in (b"\x01" * 997, b"\xff" * 997, b"\x7f" * 500, bytes(rng.choices(ODD, k=997))):
            for _ in range(100):
                low, high = sorted(rng.choice(rng.choice(LABELS)) for _ in range(2))
                for count in (1, 2, 127, 200):
                    wanted = searched(low, high, count) if low < high else None
                    if wanted is not None:
                        self.assertEqual(labels_between(start + low, start + high, count),
                                         [start + label for label in wanted])

    def test_each_list_is_new(self):
        first = labels_between(None, None, 2)
        first.clear()
        self.assertEqual(labels_between(None, None, 2), [b"\x02", b"\x04"])

    def test_by_keyword(self):
        self.assertEqual(labels_between(count=1, high=b"\x04", low=b"\x02"), [b"\x03\x02"])


class Words(unittest.TestCase):
    NO_LABELS = [True, False, 0, 2, "", "\x02", [2], (), {}, bytearray(b"\x02"), b"", b"\x00", b"\x01", b"\xff",
                 b"\x02\x02", b"\x02\x03\x02", b"\x00\x02", b"\x01\x00\x02", b"\x03\x00", b"\x03\x01", Forest([]),
                 b"\x01" * 1000 + b"\x02", b"\x01" * 1000]

    def check(self, low, high, count, word):
        with self.assertRaises(NoLabel) as caught:
            labels_between(low, high, count)
        self.assertEqual(caught.exception.word, word)

    def test_low_and_high(self):
        for thing in self.NO_LABELS:
            self.check(thing, None, 1, "low")
            self.check(None, thing, 1, "high")
            self.check(thing, thing, None, "low")
            self.check(b"\xfe", thing, None, "high")

    def test_a_thousand_bytes(self):
        label = b"\x03" * 999 + b"\x04"
        self.assertEqual(len(label), 1000)
        self.assertEqual(labels_between(label, None, 0), [])
        self.assertEqual(labels_between(None, label, 0), [])
        self.check(b"\x03" + label, None, 0, "low")
        self.check(None, b"\x03" + label, 0, "high")

    def test_order(self):
        for low, high in ((b"\x02", b"\x02"), (b"\x04", b"\x02"), (b"\x03\x02", b"\x02"), (b"\x03\x02", b"\x03\x02"),
                          (b"\x04", b"\x03\xfe"), (b"\x02", b"\x01" * 999 + b"\x02")):
            self.check(low, high, 1, "order")
            self.check(low, high, None, "order")

    def test_count(self):
        for count in (-1, 201, 10 ** 40, True, False, None, "1", b"1", [1], (), {}):
            self.check(None, None, count, "count")
            self.check(b"\x02", b"\x04", count, "count")
        self.assertEqual(len(labels_between(b"\x02", b"\x04", 200)), 200)
        self.assertEqual(labels_between(b"\x02", b"\x04", 0), [])


if __name__ == "__main__":
    unittest.main()

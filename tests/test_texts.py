"""Forests and deeds as texts ([28], [29])."""

import random
import unittest

from forestrows.deeds import Cut, Lift, Move, Put, Reverse, SetValue, Wrap
from forestrows.errors import BadText, NoDeed
from forestrows.forests import Forest
from forestrows.texts import deed_text, forest_text, read_deed, read_forest
from playing import history, planted
from shapes import all_levels, all_rows, large_levels, rows_of

GREAT = 10 ** 30
NO_STRINGS = [None, True, 0, 1, b"", b"none", b"a=1", ["a=1"], ("a", "=", "1"), {}, {"none": 1}, range(2), Forest([]),
              Cut("a"), Cut, len]
SIGNS = "az09=-(), A_+."
LETTERS = "abcdefghijklmnopqrstuvwxyz"


def text_of(rows):
    """The text of a forest, by nodes that hold one another."""
    def tree(node):
        name, value, children = node
        return f"{name}={value}" + (f"({','.join(map(tree, children))})" if children else "")
    return ",".join(map(tree, planted(rows))) or "none"


class Prefixes:
    """Whether a text can be the beginning of the text of a forest by its form, by a walk through the signs.

    `end` tells whether the whole text is one. The states are those of [28]: what a name, a value or a closing may be
    followed by.
    """

    def __init__(self, text):
        self.bad = None
        self.names = []
        state, word, depth = "name", "", 0
        for place, sign in enumerate(text):
            state, word, depth = self.after(state, word, depth, sign, place)
            if state is None:
                self.bad = place
                return
        self.end = text == "none" or (depth == 0 and (state == "closed" or state == "value" and word not in ("", "-")))
        if not self.end:
            self.bad = len(text)

    def after(self, state, word, depth, sign, place):
        nothing = None, "", 0
        if state == "name":
            if sign in LETTERS or (word and sign in "0123456789"):
                if not word:
                    self.names.append([place, ""])
                self.names[-1][1] += sign
                return ("name", word + sign, depth) if len(word) < 8 else nothing
            return ("value", "", depth) if sign == "=" and word else nothing
        if state == "value" and sign in "-0123456789":
            digits = word.lstrip("-")
            if sign == "-":
                return ("value", "-", depth) if word == "" else nothing
            fine = digits != "0" and not (word == "-" and sign == "0") and int(digits + sign) <= GREAT
            return ("value", word + sign, depth) if fine else nothing
        if state == "value" and word in ("", "-"):
            return nothing
        if sign == "," or (sign == "(" and state == "value"):
            return "name", "", depth + (sign == "(")
        if sign == ")" and depth > 0:
            return "closed", "", depth - 1
        return nothing


def place_of_fault(text):
    """The place that BadText has to tell, or None for the text of a forest."""
    told = Prefixes(text)
    if told.bad is not None:
        return told.bad
    names = [name for _, name in told.names] if text != "none" else []
    for k, name in enumerate(names):
        if name in names[:k] or k == 60:
            return told.names[k][0]
    return None


class ForestTexts(unittest.TestCase):
    def test_there_and_back(self):
        for rows in all_rows():
            forest = Forest(rows)
            text = forest_text(forest)
            self.assertEqual(text, text_of(rows))
            self.assertIsInstance(read_forest(text), Forest)
            self.assertEqual(read_forest(text), forest)
            self.assertEqual(forest.rows, tuple(rows))

    def test_by_hand(self):
        for text, rows in (("none", []), ("a=1", [("a", 1, 0)]), ("none=1", [("none", 1, 0)]),
                           ("a=1,none=0", [("a", 1, 0), ("none", 0, 0)]), ("a=-1(b=0)", [("a", -1, 0), ("b", 0, 1)]),
                           ("a=1(b=2(c=3),d=4),e=5",
                            [("a", 1, 0), ("b", 2, 1), ("c", 3, 2), ("d", 4, 1), ("e", 5, 0)]),
                           ("a=1(b=2(c=3)),e=5", [("a", 1, 0), ("b", 2, 1), ("c", 3, 2), ("e", 5, 0)]),
                           ("abcdefgh=1(z9=2,y=3)", [("abcdefgh", 1, 0), ("z9", 2, 1), ("y", 3, 1)]),
                           (f"a={GREAT}(b=-{GREAT})", [("a", GREAT, 0), ("b", -GREAT, 1)])):
            self.assertEqual(read_forest(text).rows, tuple(rows))
            self.assertEqual(read_forest(text=text), Forest(rows))
            self.assertEqual(forest_text(forest=Forest(rows)), text)

    def bad(self, text, place):
        with self.assertRaises(BadText) as caught:
            read_forest(text)
        self.assertEqual(caught.exception.place, place, text)

    def test_bad_by_hand(self):
        for text, place in (("", 0), ("non", 3), ("none,", 4), ("none(", 4), ("none=", 5), ("nones", 5), ("a", 1),
                            ("a=", 2), ("a=1(", 4), ("a=1,", 4), ("a=1()", 4), ("a=1)", 3), ("a=1(b=2", 7),
                            ("a=1(b=2))", 8), ("a=1(b=02)", 7), ("a=-0", 3), ("a=-", 3), ("a=--1", 3), ("a=+1", 2),
                            ("a=1,,b=2", 4), ("a =1", 1), (" a=1", 0), ("a=1 ", 3), ("a= 1", 2), ("A=1", 0), ("1=1", 0),
                            ("aB=1", 1), ("abcdefghi=1", 8), ("abcdefgh", 8), ("=1", 0), (",a=1", 0), ("(a=1)", 0),
                            ("a=1(b=2)c=3", 8), ("a=1(b=2)(c=3)", 8), ("a=1b=2", 3), ("a=1,none", 8), ("none,a=1", 4),
                            ("a=1,1b=2", 4), ("a=00", 3), ("a=0,a=0,A", 8), ("a=1.0", 3), ("a=1\n", 3), ("\n", 0),
                            ("a=1(none)", 8), ("a=x", 2), ("a==1", 2), ("a=1-", 3), ("a=1=2", 3)):
            self.bad(text, place)
            self.assertEqual(place_of_fault(text), place, text)

    def test_values_at_the_bounds_and_beyond(self):
        for sign in ("", "-"):
            start = 2 + len(sign)
            self.assertEqual(read_forest(f"a={sign}{GREAT}").rows, (("a", int(f"{sign}{GREAT}"), 0),))
            self.assertEqual(read_forest(f"a={sign}{GREAT - 1}").rows, (("a", int(f"{sign}{GREAT - 1}"), 0),))
            for number, place in ((GREAT + 1, 30), (2 * GREAT, 30), (10 * GREAT, 31), (GREAT + 10, 30), (9 * GREAT, 30),
                                  (GREAT + 10 ** 29, 30), (10 ** 40, 31)):
                self.bad(f"a={sign}{number}", start + place)
                self.bad(f"a={sign}{number}(b=1)", start + place)
            self.bad(f"a={sign}{'9' * 5000}", start + 30)

    def test_no_strings(self):
        for thing in NO_STRINGS:
            self.bad(thing, 0)

    def test_names_twice(self):
        for text, place in (("a=1,a=2", 4), ("a=1(a=2)", 4), ("a=1(b=2),b=3", 9), ("a=1,b=2,b=3,a=4", 8),
                            ("aa=1,a=2,aa=3", 9), ("none=1,none=2", 7)):
            self.bad(text, place)
        # The form goes first.
        self.bad("a=1,a=2,", 8)
        self.bad("a=1,a=2)", 7)
        self.bad("a=1,a=2,b=01", 11)

    def test_sixty_nodes_and_sixty_one(self):
        for levels in large_levels().values():
            text = text_of(rows_of(levels))
            self.assertEqual(len(read_forest(text)), 60)
            self.bad(text + ",x=1", len(text) + 1)
            self.bad(text + ",x=1,x=2,y=3", len(text) + 1)
            self.bad(text + ",n5=1", len(text) + 1)
            self.bad(text + ",x=1,", len(text) + 5)
            self.bad("n5=1," + text, len("n5=1,") + text.index("n5="))
        deep = "".join(f"n{place}=1(" for place in range(200)) + "x=1" + ")" * 200
        self.bad(deep, deep.index("n60="))
        self.bad(deep + ")", len(deep))
        wide = ",".join(f"n{place}=1" for place in range(3000))
        self.bad(wide, wide.index("n60="))

    def test_a_sign_put_in_left_out_or_changed_at_every_place(self):
        texts = ["none", "a=1", "none=0", "a=10(b=-2(cc=3),d=4),e=5", "abcdefgh=0(a=1)", f"a={GREAT}(b=-{GREAT})"]
        count = 0
        for text in texts:
            for place in range(len(text) + 1):
                ways = [text[:place] + text[place + 1:], text[:place]]
                for sign in SIGNS:
                    ways += [text[:place] + sign + text[place:], text[:place] + sign + text[place + 1:]]
                for way in ways:
                    self.check(way)
                    count += 1
        self.assertGreater(count, 3000)

    def check(self, text):
        """A text is read as by the slow walk."""
        place = place_of_fault(text)
        if place is not None:
            self.bad(text, place)
        else:
            forest = read_forest(text)
            self.assertEqual(forest_text(forest), text)

    def test_drawn_texts(self):
        rng = random.Random(1)
        for _ in range(4000):
            self.check("".join(rng.choice("ab=,()1") for _ in range(rng.randrange(12))))
        for levels in all_levels(4):
            text = text_of(rows_of(levels))
            for _ in range(60):
                signs = list(text)
                for _ in range(rng.randrange(1, 4)):
                    at = rng.randrange(len(signs))
                    signs[at:at + rng.randrange(2)] = rng.choice([[], [rng.choice(SIGNS)], [rng.choice("n0123=,()")]])
                    signs = signs or ["a"]
                self.check("".join(signs))


DEEDS = [
    ("put a 1 - 0", Put("a", 1, None, 0)), ("put abcdefgh -5 b2 99", Put("abcdefgh", -5, "b2", 99)),
    (f"put none {GREAT} none 10", Put("none", GREAT, "none", 10)), ("move a - 0", Move("a", None, 0)),
    ("move a b 9", Move("a", "b", 9)), ("cut a", Cut("a")), ("cut cut", Cut("cut")), ("lift z9", Lift("z9")),
    ("wrap a 0 - 0 1", Wrap("a", 0, None, 0, 1)), (f"wrap a -{GREAT} b 99 0", Wrap("a", -GREAT, "b", 99, 0)),
    ("reverse -", Reverse(None)), ("reverse a", Reverse("a")), ("set a 7", SetValue("a", 7)),
    ("set a -1", SetValue("a", -1)),
]
NUMBERS = {"put": 4, "move": 3, "cut": 1, "lift": 1, "wrap": 5, "reverse": 1, "set": 2}


class DeedTexts(unittest.TestCase):
    def test_there_and_back(self):
        for text, deed in DEEDS:
            self.assertEqual(deed_text(deed), text)
            self.assertEqual(deed_text(deed=deed), text)
            self.assertEqual(read_deed(text), deed)
            self.assertEqual(read_deed(text=text).__class__, deed.__class__)

    def test_deeds_of_histories(self):
        for seed, levels in enumerate([[], *large_levels().values()]):
            for _, deed, _ in history(seed, 60, rows_of(levels)):
                self.assertEqual(read_deed(deed_text(deed)), deed)

    def test_no_text(self):
        names = [None, True, 0, "", "A", "1a", "abcdefghi", "a b", "-", b"a", ["a"], ("a",), {}, Forest([])]
        values = [None, True, False, "1", b"1", GREAT + 1, -GREAT - 1, [1], (1,), {}, Forest([])]
        ranks = [None, True, False, -1, 100, 10 ** 40, "0", b"0", [0], (0,), {}, Forest([])]
        parents = [name for name in names if name is not None]
        deeds = [make(name) for name in names
                 for make in (lambda name: Put(name, 1, None, 0), lambda name: Move(name, None, 0), Cut, Lift,
                              lambda name: Wrap(name, 1, None, 0, 1), lambda name: SetValue(name, 1))]
        deeds += [make(value) for value in values
                  for make in (lambda value: Put("a", value, None, 0), lambda value: Wrap("a", value, None, 0, 1),
                               lambda value: SetValue("a", value))]
        deeds += [make(parent) for parent in parents
                  for make in (lambda parent: Put("a", 1, parent, 0), lambda parent: Move("a", parent, 0),
                               lambda parent: Wrap("a", 1, parent, 0, 1), Reverse)]
        deeds += [make(rank) for rank in ranks
                  for make in (lambda rank: Put("a", 1, None, rank), lambda rank: Move("a", None, rank),
                               lambda rank: Wrap("a", 1, None, rank, 1), lambda rank: Wrap("a", 1, None, 0, rank))]
        deeds += [None, True, 3, "cut a", b"cut a", [], ["cut", "a"], ("cut", "a"), {}, Forest([]), Cut, len]
        for deed in deeds:
            with self.assertRaises(NoDeed) as caught:
                deed_text(deed)
            self.assertEqual(caught.exception.why, "text")

    def bad(self, text, place):
        with self.assertRaises(BadText) as caught:
            read_deed(text)
        self.assertEqual(caught.exception.place, place, text)

    def test_bad_by_hand(self):
        for text, place in (("", 0), (" ", 0), ("pot", 0), ("Put", 0), ("put", 1), ("put a", 2), ("put a 1", 3),
                            ("put a 1 -", 4), ("put a 1 - 0 ", 5), ("put a 1 - 0 0", 5), ("put a 1 - 00", 4),
                            ("put a 1 - 01", 4), ("put a 1 - 100", 4), ("put a 1 - -1", 4), ("put  a 1 - 0", 1),
                            (" put a 1 - 0", 0), ("put - 1 - 0", 1), ("put a 01 - 0", 2), ("put a -0 - 0", 2),
                            ("put a +1 - 0", 2), ("put a 1  0", 3), ("put a 1 -- 0", 3), ("put a 1 None 0", 3),
                            ("cut", 1), ("cut ", 1), ("cut a b", 2), ("cut A", 1), ("cut -", 1), ("cut a ", 2),
                            ("cut\na", 0), ("cut a\n", 1), ("lift", 1), ("lift 1", 1), ("move a -", 3),
                            ("move a - 1 2", 4),
                            ("move a 1 1", 2), ("wrap a 1 - 0", 5), ("wrap a 1 - 0 100", 5), ("wrap a 1 - x 1", 4),
                            ("wrap a 1 - 0 1 2", 6), ("reverse", 1), ("reverse a b", 2), ("reverse A", 1), ("set a", 2),
                            ("set a b", 2), ("set a 1 2", 3), ("none", 0), ("undo", 0), ("put A B C D E F", 1),
                            ("put a 1 - 0 1 2 3", 5), (f"set a {GREAT + 1}", 2), (f"set a -{GREAT + 1}", 2),
                            (f"set a {10 * GREAT}", 2), (f"set a {'9' * 5000}", 2), (f"put a 1 - {'9' * 5000}", 4),
                            ("set a -", 2), ("set a 1.0", 2), ("set a 1_0", 2), ("set abcdefghi 1", 1),
                            ("set a 0x1", 2)):
            self.bad(text, place)

    def test_no_strings(self):
        for thing in [*NO_STRINGS, b"cut a", ["cut", "a"]]:
            self.bad(thing, 0)

    def test_too_few_and_too_many_words(self):
        for text, _ in DEEDS:
            words = text.split(" ")
            self.assertEqual(len(words), NUMBERS[words[0]] + 1)
            for count in range(1, len(words)):
                self.bad(" ".join(words[:count]), count)
                self.bad(" ".join(words[:count]) + " ", count)
            for more in ("0", "a", "-", "", "A"):
                self.bad(f"{text} {more}", len(words))
                self.bad(f"{text} {more} 0", len(words))

    def test_each_word_changed(self):
        right = {"name": ("a", "z9", "abcdefgh", "none"), "value": ("0", "-1", str(GREAT), str(-GREAT), "12"),
                 "parent": ("-", "a", "z9"), "rank": ("0", "7", "10", "99")}
        things = ("", "a", "z9", "abcdefgh", "abcdefghi", "A", "-", "--", "0", "-0", "00", "07", "7", "10", "99", "100",
                  "-1", "12", str(GREAT), str(GREAT + 1), "+1", "none", "1a", "a-", "a\n", "1.0")
        wholes = {"put": ("name", "value", "parent", "rank"), "move": ("name", "parent", "rank"), "cut": ("name",),
                  "lift": ("name",), "wrap": ("name", "value", "parent", "rank", "rank"), "reverse": ("parent",),
                  "set": ("name", "value")}
        fits = {"name": lambda word: word in ("a", "z9", "abcdefgh", "none"),
                "value": lambda word: word in ("0", "7", "10", "99", "100", "-1", "12", str(GREAT)),
                "parent": lambda word: word in ("a", "z9", "abcdefgh", "none", "-"),
                "rank": lambda word: word in ("0", "7", "10", "99", "12")}
        for first, kinds in wholes.items():
            for place, kind in enumerate(kinds, start=1):
                for thing in things:
                    words = [first, *[right[one][1] for one in kinds]]
                    words[place] = thing
                    if fits[kind](thing):
                        self.assertEqual(deed_text(read_deed(" ".join(words))), " ".join(words))
                    else:
                        self.bad(" ".join(words), place)
                        self.bad(" ".join(words[:place + 1]), place)
                        self.bad(" ".join([*words, "more"]), place)


if __name__ == "__main__":
    unittest.main()

"""A desk with a book, told commands ([30])."""

import random
import unittest

from forestrows.books import Book
from forestrows.deeds import Cut, Put
from forestrows.desk import Desk
from forestrows.errors import ForestError, Full, NoBound
from forestrows.forests import Forest
from forestrows.routes import Route, ask
from forestrows.texts import deed_text, forest_text
from playing import history, some_deed
from shapes import large_levels, rows_of
from walking import AXES

GREAT = 10 ** 30
ROWS = [("a", 1, 0), ("b", 2, 1), ("c", 3, 0)]
BAD = ["refused badrow"]
NO_STRINGS = [None, True, 0, 1, b"", b"undo", ["undo"], ("undo",), {}, {"undo": 1}, range(2), Forest([]), Cut("a"),
              Cut, len]


def state(desk):
    """All that a desk shows."""
    return [desk.tell(word) for word in ("forest", "spans", "keys", "pairs")]


class Desks(unittest.TestCase):
    def test_example(self):
        desk = Desk(Forest([("a", 1, 0)]), most=8)
        self.assertEqual([desk.tell("put b 2 a 0"), desk.tell("forest"), desk.tell("cut c"), desk.tell("pairs")],
                         [["0 0 0"], ["a=1(b=2)"], ["refused nodeed"], ["3"]])

    def test_errors_of_a_book(self):
        for most in (None, True, 0, GREAT + 1, "8"):
            with self.assertRaises(NoBound) as caught:
                Desk(Forest(ROWS), most=most)
            self.assertIs(caught.exception.most, most)
        with self.assertRaises(Full) as caught:
            Desk(Forest(ROWS), most=5)
        self.assertEqual(caught.exception.needed, 6)
        self.assertEqual(Desk(most=6, forest=Forest(ROWS)).tell(row="pairs"), ["4"])
        with self.assertRaises(TypeError):
            Desk(Forest(ROWS), 6)

    def test_what_is_shown(self):
        desk = Desk(Forest(ROWS), most=60)
        self.assertEqual(state(desk), [["a=1(b=2),c=3"], ["a 5 35", "b 15 25", "c 45 55"], ["a 02", "b 0202", "c 04"],
                                       ["4"]])
        self.assertEqual(state(Desk(Forest([]), most=1)), [["none"], [], [], ["0"]])
        chain = Desk(Forest(rows_of(range(60))), most=120)
        self.assertEqual(chain.tell("pairs"), ["1830"])
        self.assertEqual(chain.tell("keys")[-1], "n59 " + "02" * 60)

    def test_keys_in_hexadecimal(self):
        forest = Forest([(f"n{place}", 0, 0) for place in range(60)])
        self.assertIn("n5 0c", Desk(forest, most=120).tell("keys"))
        desk, book = Desk(Forest(ROWS), most=120), Book(Forest(ROWS), most=120)
        for place in range(40):
            desk.tell(f"put x{place} 1 - 1")
            book.do(Put(f"x{place}", 1, None, 1))
        rows = [row.split(" ") for row in desk.tell("keys")]
        self.assertEqual([(name, bytes.fromhex(key)) for name, key in rows], [row[::2] for row in book.key_rows()])
        self.assertTrue(all(sign in "0123456789abcdef" for _, key in rows for sign in key))

    def test_against_a_book(self):
        rng = random.Random(1)
        for seed, levels in enumerate([[], [0, 1, 0], *large_levels().values()]):
            forest = Forest(rows_of(levels))
            most = max(10, 2 * len(forest) + 2 * seed)
            desk, book = Desk(forest, most=most), Book(forest, most=most)
            for call in range(50):
                kind = rng.choice(["deed", "deed", "deed", "undo", "redo", "bound", "ask"])
                if kind == "deed":
                    deed = some_deed(rng, book.forest(), f"d{call}")
                    expected = self.told(lambda: [" ".join(str(len(change.changed)) for change in book.do(deed))])
                    self.assertEqual(desk.tell(deed_text(deed)), expected)
                elif kind == "bound":
                    bound = max(0, 2 * len(book.forest()) + rng.randrange(-2, 9))
                    self.assertEqual(desk.tell(f"bound {bound}"), self.told(lambda: book.set_bound(bound)))
                elif kind == "ask":
                    axes = [rng.choice(AXES) for _ in range(rng.randrange(1, 21))]
                    name = rng.choice([*book.forest(), "nobody"])
                    route = Route([(axis, None) for axis in axes])
                    expected = self.told(lambda: [" ".join(ask(book.forest(), route, name)) or "none"])
                    self.assertEqual(desk.tell(f"ask {name} {' '.join(axes)}"), expected)
                else:
                    self.assertEqual(desk.tell(kind), self.told(getattr(book, kind)))
                self.assertEqual(desk.tell("forest"), [forest_text(book.forest())])
                self.assertEqual(desk.tell("spans"), [f"{row[0]} {row[2]} {row[3]}" for row in book.span_rows()])
                self.assertEqual(desk.tell("keys"), [f"{row[0]} {row[2].hex()}" for row in book.key_rows()])
                self.assertEqual(desk.tell("pairs"), [str(len(book.pair_rows()))])

    def told(self, call):
        """The answer to a call, `done` for None, or the text of its error."""
        try:
            found = call()
        except ForestError as error:
            return [error.told()]
        return ["done"] if found is None else found

    def test_errors_are_told(self):
        desk = Desk(Forest(ROWS), most=6)
        before = state(desk)
        for row, answer in (("undo", "noback"), ("redo", "noback"), ("bound 0", "nobound"), ("bound 5", "full"),
                            (f"bound {GREAT + 1}", "nobound"), (f"bound {10 * GREAT - 1}", "nobound"),
                            ("cut x", "nodeed"), ("put a 1 - 0", "nodeed"), ("put x 1 - 9", "nodeed"),
                            ("put x 1 - 0", "full"), ("wrap x 1 - 0 2", "full"), ("move a b 0", "nodeed"),
                            ("ask x self", "nonode"), ("ask none child", "nonode")):
            self.assertEqual(desk.tell(row), ["refused " + answer])
            self.assertEqual(state(desk), before)

    def test_bounds(self):
        desk = Desk(Forest(ROWS), most=60)
        for row, answer in (("bound 7", "done"), ("bound 6", "done"), (f"bound {GREAT}", "done"),
                            ("bound 06", "refused badrow"), ("bound", "refused badrow"), ("bound ", "refused badrow"),
                            ("bound 6 ", "refused badrow"), ("bound  6", "refused badrow"),
                            ("bound 6 6", "refused badrow"), ("bound -6", "refused badrow"),
                            ("bound +6", "refused badrow"), ("bound 6.0", "refused badrow"),
                            ("bound x", "refused badrow"), ("bound undo", "refused badrow"),
                            ("bound redo", "refused badrow"), ("bound 00", "refused badrow"),
                            ("bound " + "1" * 31, "refused nobound"),
                            ("bound " + "1" * 32, "refused badrow"), ("bound " + "9" * 5000, "refused badrow"),
                            ("bound 0" + "1" * 30, "refused badrow"), ("Bound 7", "refused badrow")):
            self.assertEqual(desk.tell(row), [answer], row)
        for _ in range(3):
            self.assertEqual(desk.tell("undo"), ["done"])
        self.assertEqual(desk.tell("undo"), ["refused noback"])
        self.assertEqual(desk.tell("spans"), ["a 5 35", "b 15 25", "c 45 55"])

    def test_ask(self):
        desk = Desk(Forest([("a", 1, 0), ("b", 2, 1), ("c", 3, 2), ("none", 4, 1), ("e", 5, 0)]), most=60)
        for row, answer in (("ask a self", "a"), ("ask a child", "b none"), ("ask a descendant", "b c none"),
                            ("ask c parent parent", "a"), ("ask a parent", "none"), ("ask b next", "none"),
                            ("ask none previous child", "c"), ("ask e preceding", "a b c none"),
                            ("ask a " + " ".join(["self"] * 20), "a"), ("ask e child child", "none")):
            self.assertEqual(desk.tell(row), [answer], row)
        for row in ("ask", "ask ", "ask a", "ask a ", "ask a self ", "ask  a self", "ask a  self", "ask a up",
                    "ask A self",
                    "ask a Self", "ask a self up", "ask self", "ask - self", "ask abcdefghi self", "asks a self",
                    "ask a " + " ".join(["self"] * 21), "ask x " + " ".join(["self"] * 21), "ask x up",
                    "ask a self None"):
            self.assertEqual(desk.tell(row), BAD, row)

    def test_any_other_command(self):
        desk = Desk(Forest(ROWS), most=60)
        before = state(desk)
        for row in ("", " ", "x", "Undo", "undo ", " undo", "undo undo", "redo 1", "forest ", "forest a", " forest",
                    "spans 1", "keys a", "pairs ", "many", "mark a", "back a", "limit", "help", "put", "put b", "cut",
                    "cut ", "cut a b", "cut  a", "put x 1 - 00", "put x 01 - 0", "set a", "set a -0", "reverse",
                    "undo\n", "\nundo", "forest\t", "none", "a=1", "ask", "done", f"set a {GREAT + 1}", "\\", "'",
                    "\u00e9", "put x 1 - 100", "move a b 0 0", "x" * 10000, " " * 10000):
            self.assertEqual(desk.tell(row), BAD, row)
        for thing in NO_STRINGS:
            self.assertEqual(desk.tell(thing), BAD)
        self.assertEqual(state(desk), before)
        self.assertEqual(desk.tell("undo"), ["refused noback"])

    def test_a_word_put_in_left_out_or_changed_at_every_place(self):
        rows = ["undo", "redo", "forest", "spans", "keys", "pairs", "bound 60", "ask a child next", "put x 1 a 0",
                "move b c 0", "cut b", "lift a", "wrap x 0 - 0 2", "reverse -", "set a 5"]
        for row in rows:
            words = row.split(" ")
            for place in range(len(words) + 1):
                for more in ("", "A", "zz"):
                    for way in (words[:place] + [more] + words[place:], words[:place] + [more] + words[place + 1:],
                                words[:place] + words[place + 1:]):
                        desk = Desk(Forest(ROWS), most=60)
                        before = state(desk)
                        answer = desk.tell(" ".join(way))
                        self.assertEqual([type(one) for one in answer], [str] * len(answer))
                        if "" in way or "A" in way or not way:
                            self.assertEqual(answer, BAD, way)
                        if answer[:1] and answer[0].startswith("refused"):
                            self.assertEqual(state(desk), before)
                            self.assertEqual(desk.tell("undo"), ["refused noback"])

    def test_each_list_is_new(self):
        desk = Desk(Forest(ROWS), most=60)
        for row in ("forest", "spans", "keys", "pairs", "ask a child", "", "undo"):
            first = desk.tell(row)
            kept = list(first)
            self.assertIs(type(first), list)
            first.append("x")
            first[0] = "y"
            self.assertEqual(desk.tell(row), kept)

    def test_undo_and_redo_lead_through_the_same_states(self):
        for seed, levels in enumerate([[], *large_levels().values()]):
            rows = rows_of(levels)
            desk = Desk(Forest(rows), most=121)
            states = [state(desk)]
            for _, deed, _ in history(seed, 15, rows):
                self.assertRegex(desk.tell(deed_text(deed))[0], r"\A\d+ \d+ \d+\Z")
                states.append(state(desk))
            for place in reversed(range(15)):
                self.assertEqual((desk.tell("undo"), state(desk)), (["done"], states[place]))
            for place in range(1, 16):
                self.assertEqual((desk.tell("redo"), state(desk)), (["done"], states[place]))

    def test_two_desks(self):
        forest = Forest(ROWS)
        one, other = Desk(forest, most=60), Desk(forest, most=60)
        one.tell("cut a")
        self.assertEqual((other.tell("forest"), forest.rows), (["a=1(b=2),c=3"], tuple(ROWS)))


if __name__ == "__main__":
    unittest.main()

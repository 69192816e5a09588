"""What the document promises over the whole program: its points 2 and 3."""

import copy
import itertools
import os
import pathlib
import subprocess
import sys
import unittest

from helper import (
    CHAIN, DESARGUES, FANO, PAPPUS, Numbers, book_of, chain_book, expected_exchanges, expected_needs, expected_targets,
    expected_vector, fraction, in_order, mixed_book, points_keep, rows_of, second_try_book, turned_by, weights_hold,
)
from linesaid import exchanges, finding, grounds, plans, points, shares, sums, texts, triples
from linesaid.answers import settled
from linesaid.book import Book
from linesaid.desk import Desk
from linesaid.drawings import Drawing
from linesaid.errors import NoName, NoRow, NoStep, NoText, SaidError, TooMany
from linesaid.finding import in_one_step, in_rounds
from linesaid.grounds import renamed, stands
from linesaid.plans import drawn, numbers_of, refuted

TOP = pathlib.Path(__file__).resolve().parent.parent

FIVE = ("a", "b", "c", "d", "e")
A_POINT, B_POINT, C_POINT, D_POINT = ((0, 1), (0, 1)), ((2, 1), (1, 2)), ((1, 3), (-1, 1)), ((5, 1), (4, 1))
TEXT = "a c d: a c d x y = -1*a.b.c.x.y 1*a.b.d.x.y; a c e: c a e x y = 1*c.a.d.x.y 1*c.d.e.x.y"
NAMES = {name: name + "z" for name in "abcdefxy"}


def pappus(*gone):
    return book_of([row for row in PAPPUS if row not in gone], others=["g h i", *gone])


def square():
    drawing = Drawing()
    for name, place in (("a", A_POINT), ("b", B_POINT), ("c", C_POINT), ("d", D_POINT)):
        drawing.put(name, *place)
    drawing.on("p", "a", "b", (1, 3))
    drawing.meet("q", "a", "c", "b", "d")
    return drawing


def desk():
    found = Desk()
    for row in ("line a b c", "line a b d", "apart a x y", "apart a b x", "apart a b y"):
        found.say(row)
    return found


def ground():
    return texts.read_ground(TEXT)


# Each a call of the interface, by what makes the things that are handed in: the call, and these.
CALLS = {
    "share": lambda: (shares.share, 6, -4),
    "plus": lambda: (shares.plus, (1, 2), (1, 3)),
    "minus": lambda: (shares.minus, (1, 2), (1, 3)),
    "times": lambda: (shares.times, (1, 2), (1, 3)),
    "over": lambda: (shares.over, (1, 2), (1, 3)),
    "span": lambda: (points.span, A_POINT, B_POINT, C_POINT),
    "between": lambda: (points.between, A_POINT, B_POINT, (1, 2)),
    "crossing": lambda: (points.crossing, A_POINT, B_POINT, C_POINT, D_POINT),
    "is_name": lambda: (triples.is_name, ["a", ["b"]]),
    "triple": lambda: (triples.triple, "c", "a", "b"),
    "turn": lambda: (triples.turn, "c", "a", "b"),
    "all_triples": lambda: (triples.all_triples, ["d", "b", "a", "c"]),
    "names": lambda: (lambda book: book.names(), pappus()),
    "lines": lambda: (lambda book: book.lines(), pappus()),
    "aparts": lambda: (lambda book: book.aparts(), pappus()),
    "rests_on": lambda: (exchanges.rests_on, FIVE),
    "needs": lambda: (exchanges.needs, FIVE),
    "vector": lambda: (exchanges.vector, FIVE),
    "plain": lambda: (exchanges.plain, ("a", "c", "b", "d", "e")),
    "exchanges": lambda: (exchanges.exchanges, pappus()),
    "targets": lambda: (exchanges.targets, pappus(), ("g", "h", "i")),
    "reach a sum": lambda: (sums.reach, [{("a",): 4}, {("a",): 6, (): 1}], {("a",): 2}),
    "reach weights": lambda: (sums.reach, [{("a",): 4}, {("a",): 6, (): 1}], {("a",): 3}),
    "stands": lambda: (grounds.stands, chain_book(), ground()),
    "shortened": lambda: (grounds.shortened, ground()),
    "joined": lambda: (grounds.joined, ground(), ground()[:1]),
    "joined to more": lambda: (grounds.joined, ground()[:1], ground()),
    "renamed": lambda: (grounds.renamed, ground(), dict(NAMES)),
    "in_one_step": lambda: (finding.in_one_step, pappus(), "g", "h", "i"),
    "in_one_step, open": lambda: (finding.in_one_step, pappus("a b c"), "g", "h", "i"),
    "in_one_step, a line": lambda: (finding.in_one_step, pappus(), "a", "b", "c"),
    "in_rounds": lambda: (finding.in_rounds, chain_book(), "e", "f", "g", 3),
    "in_rounds, open": lambda: (finding.in_rounds, chain_book(), "f", "g", "h", 3),
    "place": lambda: (lambda drawing: drawing.place("q"), square()),
    "names of a drawing": lambda: (lambda drawing: drawing.names(), square()),
    "built": lambda: (lambda drawing: drawing.built(), square()),
    "keeps": lambda: (lambda drawing, book: drawing.keeps(book), square(), book_of(["a b p"])),
    "plan": lambda: (plans.plan, pappus()),
    "plan, a core": lambda: (plans.plan, book_of(FANO + ("c e f",))),
    "drawn": lambda: (plans.drawn, pappus(), numbers_of(1, 12)),
    "drawn, none": lambda: (plans.drawn, pappus(), numbers_of(1, 9)),
    "numbers_of": lambda: (plans.numbers_of, 3, 12),
    "refuted": lambda: (plans.refuted, second_try_book(), "a", "b", "d", 2),
    "settled, grounded": lambda: (settled, pappus(), "g", "h", "i", 1, 1),
    "settled, refuted": lambda: (settled, second_try_book(), "a", "b", "d", 1, 2),
    "settled, open": lambda: (settled, second_try_book(), "a", "b", "d", 1, 1),
    "show_ground": lambda: (texts.show_ground, ground()),
    "read_ground": lambda: (texts.read_ground, TEXT + "; " + TEXT),
    "show_share": lambda: (texts.show_share, (1, 2)),
    "say": lambda: (lambda desk: desk.say("aparts"), desk()),
    "say, ground": lambda: (lambda desk: desk.say("ground a c d 1"), desk()),
}


def state(thing):
    """What is to be seen of a thing, as a copy."""
    if isinstance(thing, Book):
        return ("book", *rows_of(thing))
    if isinstance(thing, Drawing):
        return ("drawing", thing.names(), thing.built(), [thing.place(name) for name in thing.names()])
    if isinstance(thing, Desk):
        return ("desk", *[thing.say(row) for row in ("names", "lines", "aparts", "plan")])
    if isinstance(thing, (list, tuple)):
        return (type(thing).__name__, *[state(one) for one in thing])
    return copy.deepcopy(thing)


def kept_within(thing):
    """All lists and dicts in a thing."""
    found = [thing] if isinstance(thing, (list, dict)) else []
    if isinstance(thing, dict):
        thing = list(thing.values())
    if isinstance(thing, (list, tuple)):
        for one in thing:
            found.extend(kept_within(one))
    return found


def spoil(thing):
    for one in kept_within(thing):
        one.clear()
        if isinstance(one, list):
            one.append("spoiled")
        else:
            one["spoiled"] = 1


class OwnTest(unittest.TestCase):
    """Point 2: what is handed in, and what is told."""

    def test_every_function_of_the_document_is_called(self):
        words = set(" ".join(CALLS).replace(",", "").split())
        told = """share plus minus times over span between crossing is_name triple turn all_triples names lines aparts
                  rests_on needs vector plain exchanges targets reach stands shortened joined renamed in_one_step
                  in_rounds place built keeps plan drawn numbers_of refuted settled show_ground read_ground show_share
                  say"""
        self.assertLessEqual(set(told.split()), words)

    def test_what_is_handed_in_is_as_it_was(self):
        for name, made in CALLS.items():
            with self.subTest(call=name):
                call, *handed = made()
                before = state(handed)
                call(*handed)
                self.assertEqual(state(handed), before)

    def test_the_same_is_told_again(self):
        for name, made in CALLS.items():
            with self.subTest(call=name):
                call, *handed = made()
                told = state(call(*handed))
                self.assertEqual(state(call(*handed)), told)
                other_call, *others = made()
                self.assertEqual(state(other_call(*others)), told)

    def test_what_is_told_is_the_askers_own(self):
        for name, made in CALLS.items():
            with self.subTest(call=name):
                call, *handed = made()
                before = state(handed)
                told = call(*handed)
                kept = state(told)
                spoil(told)
                self.assertEqual(state(handed), before)
                self.assertEqual(state(call(*handed)), kept)

    def test_no_list_or_dict_stands_at_two_places(self):
        for name, made in CALLS.items():
            with self.subTest(call=name):
                call, *handed = made()
                told = call(*handed)
                inner = [id(one) for one in kept_within(told)]
                self.assertEqual(len(set(inner)), len(inner))
                self.assertFalse(set(inner) & {id(one) for one in kept_within(handed)})

    def test_what_is_handed_in_is_not_kept(self):
        for name, made in CALLS.items():
            with self.subTest(call=name):
                call, *handed = made()
                told = call(*handed)
                kept = state(told)
                spoil(handed)
                self.assertEqual(state(told), kept)

    def test_a_book_that_goes_on_changes_nothing_told(self):
        for name, made in CALLS.items():
            call, *handed = made()
            if handed and isinstance(handed[0], Book):
                with self.subTest(call=name):
                    told = call(*handed)
                    kept = state(told)
                    if len(handed[0].names()) < 10:
                        handed[0].say_apart("a", "b", "zz")
                    handed[0].say_others([])
                    call(*handed)
                    self.assertEqual(state(told), kept)

    def test_a_list_handed_to_others_is_not_kept(self):
        book = book_of(["a b c", "a d e"])
        but = [("b", "d", "e")]
        book.say_others(but)
        kept = rows_of(book)
        self.assertEqual(but, [("b", "d", "e")])
        but.clear()
        self.assertEqual(rows_of(book), kept)
        self.assertNotIn(("b", "d", "e"), book.aparts())

    def test_the_same_whatever_the_order_of_sets(self):
        code = (
            "import sys; sys.path[:0] = ['tests']; import test_whole as t\n"
            "for name in sorted(t.CALLS):\n"
            "    call, *handed = t.CALLS[name]()\n"
            "    print(name, t.state(call(*handed)))\n"
        )
        told = []
        for seed in ("0", "1", "77"):
            around = {**os.environ, "PYTHONHASHSEED": seed, "PYTHONPATH": str(TOP), "PYTHONDONTWRITEBYTECODE": "1"}
            run = subprocess.run([sys.executable, "-c", code], cwd=TOP, env=around, capture_output=True, text=True)
            self.assertEqual(run.returncode, 0, run.stderr)
            told.append(run.stdout)
        self.assertEqual(told[0].count("\n"), len(CALLS))
        self.assertEqual(told[1], told[0])
        self.assertEqual(told[2], told[0])


class RefusedTest(unittest.TestCase):
    """Point 2: any thing, where a refusal is told."""

    def test_each_refusal_is_straight_under_the_one_base(self):
        self.assertEqual(SaidError.__bases__, (ValueError,))
        for kind in (NoName, NoRow, NoStep, NoText, TooMany):
            self.assertEqual(kind.__bases__, (SaidError,))

    def test_any_thing_eight_deep(self):
        deep = [1, True, None, "a", ("b", ["c"])]
        for number in range(6):
            deep = [deep, (deep,)] if number % 2 else (deep, None)
        kept = copy.deepcopy(deep)
        book = pappus()
        calls = [
            (NoName, lambda: book.say_line(deep, "a", "b")), (NoName, lambda: book.say_apart("a", deep, "b")),
            (NoName, lambda: book.say_meet("a", "b", "c", "d", deep)),
            (NoName, lambda: square().put(deep, (0, 1), (0, 1))), (NoName, lambda: square().place(deep)),
            (NoName, lambda: square().on("z", deep, "a", (0, 1))),
            (NoName, lambda: square().meet("z", "a", "b", deep, "c")),
            (NoName, lambda: in_one_step(book, deep, "a", "b")), (NoName, lambda: in_rounds(book, "a", deep, "b", 1)),
            (NoName, lambda: refuted(book, "a", "b", deep, 1)),
            (NoName, lambda: settled(book, deep, deep, deep, 1, 1)),
            (NoText, lambda: texts.read_ground(deep)), (NoText, lambda: desk().say(deep)),
        ]
        before = rows_of(book)
        for kind, call in calls:
            with self.assertRaises(SaidError) as caught:
                call()
            self.assertIs(type(caught.exception), kind)
        self.assertIs(triples.is_name(deep), False)
        self.assertEqual((deep, rows_of(book)), (kept, before))


def all_small_books():
    """Of each of the four triples of four names is said a line, apart, or nothing."""
    threes = list(itertools.combinations("abcd", 3))
    for said in itertools.product(("line", "apart", None), repeat=4):
        book = Book()
        for row, kind in zip(threes, said):
            if kind is not None:
                (book.say_line if kind == "line" else book.say_apart)(*row)
        yield book


def many_books(start, many):
    """Mixed books of five to seven names, the greater part of which some drawing keeps."""
    numbers = Numbers(start)
    for number in range(many):
        names = "abcdefg"[:5 + number % 3]
        if number % 4 == 0:
            yield mixed_book(numbers, len(names), 1 + numbers.below(4), 4)
            continue
        # What is said is seen in a drawing: unlike points of small numbers, many of which lie on one line.
        spots = itertools.product(range(3), range(3)) if number % 4 == 1 else itertools.product(range(4), range(2))
        place = dict(zip(names, numbers.mixed(spots)))
        book = Book()
        for row in numbers.mixed(itertools.combinations(names, 3)):
            flat = turned_by(*[place[name] for name in row]) == 0
            if numbers.below(3 if flat else 9):
                (book.say_line if flat else book.say_apart)(*row)
        yield book


class NeverBothTest(unittest.TestCase):
    """Point 3: never are a ground and a refutation told of one claim."""

    def check(self, book, claim, seen):
        kinds = {in_rounds(book, *claim, rounds)[0] for rounds in (0, 1, 3)}
        drawings = [drawing for drawing in [refuted(book, *claim, tries) for tries in (1, 30)] if drawing is not None]
        if "ground" in kinds:
            self.assertEqual(drawings, [])
        for drawing in drawings:
            exact = {name: tuple(map(fraction, drawing.place(name))) for name in drawing.names()}
            self.assertTrue(points_keep(book, exact))
            self.assertNotEqual(turned_by(*[exact[name] for name in claim]), 0)
            self.assertTrue(drawing.keeps(book))
        # More rounds never take a ground away.
        self.assertNotEqual([in_rounds(book, *claim, rounds)[0] for rounds in (0, 3)], ["ground", "open"])
        for kind in kinds | ({"refuted"} if drawings else set()):
            seen[kind] = seen.get(kind, 0) + 1

    def test_all_small_books(self):
        seen = {}
        for book in all_small_books():
            for claim in itertools.combinations(book.names(), 3):
                self.check(book, claim, seen)
        self.assertGreater(seen["refuted"], 50, seen)

    def test_many_books(self):
        seen = {}
        for book in many_books(121, 60):
            for claim in itertools.combinations(book.names(), 3):
                if claim not in book.lines():
                    self.check(book, claim, seen)
        self.assertGreater(seen["ground"], 30, seen)
        self.assertGreater(seen["refuted"], 200, seen)

    def test_whatever_rounds_and_tries(self):
        for book in many_books(122, 6):
            for claim in list(itertools.combinations(book.names(), 3))[::3]:
                told = {settled(book, *claim, rounds, tries)[0] for rounds in range(4) for tries in (0, 1, 7, 30)}
                self.assertFalse({"grounded", "refuted"} <= told)


class GroundTest(unittest.TestCase):
    """Point 3: what a ground that is told promises."""

    def cases(self):
        yield pappus(), "ghi", 0
        yield book_of(DESARGUES, others=["p q r"]), "pqr", 0
        for claim, rounds in (("acd", 0), ("ace", 1), ("abf", 2), ("efg", 3)):
            yield chain_book(), claim, rounds
        for book in many_books(123, 40):
            for claim in itertools.combinations(book.names(), 3):
                if claim not in book.lines() and in_rounds(book, *claim, 2)[0] == "ground":
                    yield book, claim, 2

    def test_it_stands_and_rests_on_what_is_said(self):
        many = 0
        for book, claim, rounds in self.cases():
            steps = in_rounds(book, *claim, rounds)[1]
            self.assertTrue(stands(book, steps))
            self.assertEqual(steps[-1][0], in_order(*claim))
            lines, aparts = set(book.lines()), set(book.aparts())
            for own, target, parts in steps:
                self.assertLessEqual({*expected_needs(target), in_order(target[0], *target[3:])}, aparts)
                left = expected_vector(target)
                for often, exchange in parts:
                    self.assertIn(in_order(*exchange[:3]), lines)
                    self.assertLessEqual(set(expected_needs(exchange)), aparts)
                    for key, number in expected_vector(exchange).items():
                        left[key] = left.get(key, 0) - often * number
                self.assertEqual(left.pop((), 0) % 2, 0)
                self.assertFalse(any(left.values()))
                lines.add(own)
            many += 1
        self.assertGreater(many, 15)

    def test_rows_that_it_does_not_use_may_go(self):
        for book, claim, rounds in self.cases():
            steps = in_rounds(book, *claim, rounds)[1]
            used = set()
            for own, target, parts in steps:
                used.update([*expected_needs(target), in_order(target[0], *target[3:])])
                for often, exchange in parts:
                    used.update([in_order(*exchange[:3]), *expected_needs(exchange)])
            fewer = Book()
            for row in book.lines():
                if row in used:
                    fewer.say_line(*row)
            for row in book.aparts():
                if row in used:
                    fewer.say_apart(*row)
            self.assertTrue(stands(fewer, steps))
            self.assertEqual(in_rounds(fewer, *claim, rounds)[0], "ground")

    def test_it_does_not_hang_on_the_names(self):
        numbers = Numbers(124)
        words = ["a", "aa", "ab", "b", "ba", "c", "h", "o", "z", "zz", "q", "abcdefgh"]
        for book in many_books(125, 12):
            by = dict(zip(book.names(), numbers.mixed(words)))
            other = Book()
            for row in book.lines():
                other.say_line(*[by[name] for name in row])
            for row in book.aparts():
                other.say_apart(*[by[name] for name in row])
            for claim in itertools.combinations(book.names(), 3):
                for rounds in (0, 2):
                    one_told = in_rounds(book, *claim, rounds)
                    other_told = in_rounds(other, *[by[name] for name in claim], rounds)
                    self.assertEqual(one_told[0], other_told[0])
                    if one_told[0] == "ground":
                        self.assertTrue(stands(other, renamed(one_told[1], by)))

    def test_in_drawings_that_keep_the_book_the_claim_lies_on_one_line(self):
        numbers = Numbers(126)
        kept = 0
        for book, claim, rounds in self.cases():
            self.assertEqual(in_rounds(book, *claim, rounds)[0], "ground")
            for number in range(4):
                drawing = drawn(book, [numbers.share(9) for place in range(20)])
                if drawing is not None and drawing.keeps(book):
                    kept += 1
                    self.assertEqual(points.span(*[drawing.place(name) for name in claim]), (0, 1))
        self.assertGreater(kept, 15)

    def test_weights_where_no_ground_is_told(self):
        many = 0
        for book in many_books(127, 12):
            vectors = [expected_vector(one) for one in expected_exchanges(book)]
            for claim in itertools.combinations(book.names(), 3):
                kind, found = in_one_step(book, *claim)
                if kind == "open":
                    self.assertEqual([target for target, weights in found], expected_targets(book, claim))
                    for target, weights in found:
                        self.assertTrue(weights_hold(vectors, expected_vector(target), weights))
                        many += 1
        self.assertGreater(many, 200)


class BuiltTest(unittest.TestCase):
    """Point 3: a drawing keeps the lines by which it was built."""

    def test_drawings_along_plans(self):
        numbers = Numbers(128)
        for rows in (PAPPUS, DESARGUES, FANO, CHAIN):
            for number in range(10):
                drawing = drawn(book_of(rows), [numbers.share(6) for place in range(20)])
                if drawing is not None:
                    self.assertTrue(drawing.keeps(book_of([" ".join(row) for row in drawing.built()])))
                    self.assertEqual(drawing.built(), book_of(rows).lines())

    def test_a_drawing_that_refutes_is_built_by_the_books_lines(self):
        for book in many_books(129, 20):
            for claim in list(itertools.combinations(book.names(), 3))[::4]:
                drawing = refuted(book, *claim, 3)
                if drawing is not None:
                    self.assertEqual(drawing.built(), book.lines())


if __name__ == "__main__":
    unittest.main()

import copy
import itertools
import unittest

from helper import ANY_THINGS, DESARGUES, PAPPUS, Numbers, book_of, in_order, is_point, point, rows_of
from linesaid.book import Book
from linesaid.drawings import Drawing
from linesaid.errors import NoName, NoStep, SaidError, TooMany
from linesaid.points import between, crossing, span

HALF = (1, 2)
ONE = (1, 1)
ZERO = (0, 1)


def all_of(drawing):
    return (drawing.names(), [drawing.place(name) for name in drawing.names()], drawing.built())


def drawing_of(**points):
    found = Drawing()
    for name, (x, y) in points.items():
        found.put(name, *point(x, y))
    return found


def square():
    return drawing_of(a=(0, 0), b=(2, 0), c=(2, 2), d=(0, 2))


def full():
    """Ten points; a and b, c and d at one place each; e f beside g h."""
    return drawing_of(
        a=(0, 0), b=(0, 0), c=(1, 5), d=(1, 5), e=(2, 0), f=(3, 1), g=(2, 4), h=(4, 6), i=(7, 0), j=(0, 9),
    )


class PutTest(unittest.TestCase):
    def test_an_empty_drawing(self):
        self.assertEqual(all_of(Drawing()), ([], [], []))

    def test_at_any_place(self):
        drawing = Drawing()
        large = 10 ** 60 - 1
        told = {"a": (ZERO, ZERO), "b": ((-7, 3), (5, 2)), "c": ((large, 7), (-large, 2)), "abcdefgh": (ZERO, ONE)}
        for name, (x, y) in told.items():
            self.assertIsNone(drawing.put(name, x, y))
        self.assertEqual(drawing.names(), ["a", "abcdefgh", "b", "c"])
        for name, place in told.items():
            self.assertEqual(drawing.place(name), place)
        self.assertEqual(drawing.built(), [])

    def test_two_names_at_one_place(self):
        drawing = drawing_of(a=(1, 2), b=(1, 2))
        self.assertEqual(drawing.place("a"), drawing.place("b"))

    def test_names_in_order(self):
        drawing = Drawing()
        for name in ("b", "ab", "z", "a", "ba", "aa"):
            drawing.put(name, ZERO, ONE)
        self.assertEqual(drawing.names(), ["a", "aa", "ab", "b", "ba", "z"])

    def test_ten_points(self):
        self.assertEqual(full().names(), list("abcdefghij"))

    def test_two_drawings_beside_one_another(self):
        one, other = Drawing(), Drawing()
        one.put("a", ZERO, ONE)
        other.put("a", ONE, ONE)
        other.put("b", ZERO, ZERO)
        other.on("c", "a", "b", HALF)
        self.assertEqual(all_of(one), (["a"], [(ZERO, ONE)], []))
        self.assertEqual(other.names(), ["a", "b", "c"])
        self.assertEqual(other.built(), [("a", "b", "c")])
        self.assertEqual(all_of(Drawing()), ([], [], []))


class OnTest(unittest.TestCase):
    def test_written_out(self):
        drawing = drawing_of(a=(0, 0), b=(4, 2))
        for name, t, place in (("c", (1, 2), (2, 1)), ("d", (0, 1), (0, 0)), ("e", (1, 1), (4, 2)),
                               ("f", (-1, 2), (-2, -1)), ("g", (3, 1), (12, 6))):
            self.assertIsNone(drawing.on(name, "a", "b", t))
            self.assertEqual(drawing.place(name), point(*place))
        self.assertEqual(drawing.built(), [("a", "b", name) for name in "cdefg"])

    def test_the_share_leads_from_the_first_to_the_second(self):
        drawing = drawing_of(a=(0, 0), b=(3, 6))
        drawing.on("c", "a", "b", (1, 3))
        drawing.on("d", "b", "a", (1, 3))
        self.assertEqual(drawing.place("c"), point(1, 2))
        self.assertEqual(drawing.place("d"), point(2, 4))

    def test_the_line_is_a_triple(self):
        for new, one, other in itertools.permutations(("a", "ab", "b")):
            drawing = Drawing()
            drawing.put(one, ZERO, ZERO)
            drawing.put(other, ONE, ONE)
            drawing.on(new, one, other, HALF)
            self.assertEqual(drawing.built(), [("a", "ab", "b")])

    def test_on_points_that_were_built(self):
        drawing = square()
        drawing.on("e", "a", "c", HALF)
        drawing.on("f", "e", "b", HALF)
        drawing.on("g", "e", "f", (-2, 1))
        self.assertEqual(drawing.built(), [("a", "c", "e"), ("b", "e", "f"), ("e", "f", "g")])
        self.assertEqual(drawing.place("g"), point(0, 2))


class MeetTest(unittest.TestCase):
    def test_written_out(self):
        drawing = square()
        self.assertIsNone(drawing.meet("p", "a", "c", "b", "d"))
        self.assertEqual(drawing.place("p"), point(1, 1))
        self.assertEqual(drawing.built(), [("a", "c", "p"), ("b", "d", "p")])

    def test_beyond_the_points_of_the_pairs(self):
        drawing = drawing_of(a=(0, 0), b=(1, 1), c=(0, 4), d=(1, 4))
        drawing.meet("p", "a", "b", "c", "d")
        self.assertEqual(drawing.place("p"), point(4, 4))

    def test_pairs_that_share_a_name(self):
        drawing = square()
        drawing.meet("p", "a", "b", "a", "c")
        self.assertEqual(drawing.place("p"), drawing.place("a"))
        drawing.meet("q", "c", "b", "d", "c")
        self.assertEqual(drawing.place("q"), drawing.place("c"))
        self.assertEqual(drawing.built(), [("a", "b", "p"), ("a", "c", "p"), ("b", "c", "q"), ("c", "d", "q")])

    def test_names_in_any_order(self):
        for names in itertools.permutations("abcd"):
            drawing = square()
            expected = crossing(*[drawing.place(name) for name in names])
            if expected is None:
                with self.assertRaises(NoStep):
                    drawing.meet("p", *names)
            else:
                drawing.meet("p", *names)
                self.assertEqual(drawing.place("p"), expected)
                self.assertEqual(drawing.built(), sorted([in_order("p", *names[:2]), in_order("p", *names[2:])]))

    def test_the_new_name_ahead_of_the_others(self):
        drawing = drawing_of(m=(0, 0), n=(2, 2), o=(0, 2), p=(2, 0))
        drawing.meet("a", "n", "m", "p", "o")
        drawing.meet("z", "m", "n", "o", "p")
        self.assertEqual(drawing.built(), [("a", "m", "n"), ("a", "o", "p"), ("m", "n", "z"), ("o", "p", "z")])


class PlaceTest(unittest.TestCase):
    def test_of_any_thing_that_has_none(self):
        for drawing in (Drawing(), square()):
            before = all_of(drawing)
            for thing in (*ANY_THINGS, "p", "aa", "ab", "z"):
                with self.assertRaises(NoName):
                    drawing.place(thing)
            self.assertEqual(all_of(drawing), before)

    def test_a_point_of_shares(self):
        drawing = square()
        drawing.on("e", "a", "c", (2, 7))
        drawing.meet("f", "e", "b", "a", "d")
        for name in drawing.names():
            self.assertTrue(is_point(drawing.place(name)))


class RefusalTest(unittest.TestCase):
    def refused(self, error, drawing, deed, *told):
        before = all_of(drawing)
        with self.assertRaises(SaidError) as caught:
            getattr(drawing, deed)(*told)
        self.assertIs(type(caught.exception), error, (deed, told))
        self.assertEqual(all_of(drawing), before, (deed, told))

    def test_a_new_name_that_is_none(self):
        for thing in ANY_THINGS:
            self.refused(NoName, Drawing(), "put", thing, ZERO, ZERO)
            self.refused(NoName, square(), "put", thing, ZERO, ZERO)
            self.refused(NoName, square(), "on", thing, "a", "b", HALF)
            self.refused(NoName, square(), "meet", thing, "a", "c", "b", "d")

    def test_a_new_name_that_has_a_point(self):
        for name in "abcd":
            self.refused(NoName, square(), "put", name, ZERO, ZERO)
            self.refused(NoName, square(), "on", name, "a", "b", HALF)
            self.refused(NoName, square(), "on", name, "c", "d", HALF)
            self.refused(NoName, square(), "meet", name, "a", "c", "b", "d")
        drawing = square()
        drawing.on("e", "a", "b", HALF)
        drawing.meet("f", "a", "c", "b", "d")
        for name in "ef":
            self.refused(NoName, drawing, "put", name, ZERO, ZERO)

    def test_a_name_asked_for_that_has_no_point(self):
        for thing in (*ANY_THINGS, "p", "z", "aa"):
            for place in range(2):
                told = ["a", "b"]
                told[place] = thing
                self.refused(NoName, square(), "on", "p", *told, HALF)
            for place in range(4):
                told = ["a", "c", "b", "d"]
                told[place] = thing
                self.refused(NoName, square(), "meet", "p", *told)
            self.refused(NoName, square(), "on", "p", thing, thing, HALF)
            self.refused(NoName, square(), "meet", "p", thing, thing, thing, thing)
        self.refused(NoName, Drawing(), "on", "p", "a", "b", HALF)
        self.refused(NoName, Drawing(), "meet", "p", "a", "b", "c", "d")

    def test_an_eleventh_point(self):
        self.refused(TooMany, full(), "put", "k", ZERO, ZERO)
        self.refused(TooMany, full(), "on", "k", "a", "c", HALF)
        self.refused(TooMany, full(), "meet", "k", "e", "i", "a", "j")

    def test_the_tenth_point_is_taken(self):
        for deed, told in (("put", (ZERO, ONE)), ("on", ("a", "b", HALF)), ("meet", ("a", "c", "b", "d"))):
            drawing = square()
            for name in "efghi":
                drawing.put(name, ONE, HALF)
            getattr(drawing, deed)("j", *told)
            self.assertEqual(len(drawing.names()), 10)
            self.refused(TooMany, drawing, "put", "k", ZERO, ZERO)

    def test_on_with_points_alike(self):
        for t in (ZERO, HALF, ONE, (-7, 3)):
            self.refused(NoStep, square(), "on", "p", "a", "a", t)
            drawing = drawing_of(a=(1, 2), b=(1, 2), c=(1, 3), d=(2, 2))
            self.refused(NoStep, drawing, "on", "p", "a", "b", t)
            self.refused(NoStep, drawing, "on", "p", "b", "a", t)
            # Only x or only y alike is enough for a line.
            drawing.on("p", "a", "c", t)
            drawing.on("q", "a", "d", t)

    def test_a_meet_of_lines_side_by_side(self):
        for told in ("abdc", "abcd", "badc", "dcab", "adbc", "bcad"):
            self.refused(NoStep, square(), "meet", "p", *told)

    def test_a_meet_of_one_line_twice(self):
        for told in ("abab", "abba", "cdcd", "acca"):
            self.refused(NoStep, square(), "meet", "p", *told)
        drawing = drawing_of(a=(0, 0), b=(1, 1), c=(2, 2), d=(3, 3))
        for told in itertools.permutations("abcd"):
            self.refused(NoStep, drawing, "meet", "p", *told)
        self.refused(NoStep, drawing, "meet", "p", "a", "b", "a", "c")

    def test_a_meet_of_a_pair_of_one_name(self):
        for told in ("aabc", "bcaa", "aaaa", "aaab", "aabb", "baaa"):
            self.refused(NoStep, square(), "meet", "p", *told)

    def test_a_meet_of_a_pair_at_one_place(self):
        drawing = drawing_of(a=(1, 2), b=(1, 2), c=(0, 0), d=(5, 1))
        for told in ("abcd", "cdab", "bacd", "dcba"):
            self.refused(NoStep, drawing, "meet", "p", *told)
        # By another name at the same place the pairs meet.
        drawing.meet("p", "a", "c", "b", "d")
        self.assertEqual(drawing.place("p"), point(1, 2))

    def test_no_name_comes_ahead_of_too_many(self):
        for name in ("a", "A", None, "", ["a"], True):
            self.refused(NoName, full(), "put", name, ZERO, ZERO)
            self.refused(NoName, full(), "on", name, "a", "c", HALF)
            self.refused(NoName, full(), "meet", name, "e", "i", "a", "j")
        for name in ("k", "z", None, "", ["a"], 7):
            self.refused(NoName, full(), "on", "k", name, "c", HALF)
            self.refused(NoName, full(), "on", "k", "a", name, HALF)
            for place in range(4):
                told = ["e", "i", "a", "j"]
                told[place] = name
                self.refused(NoName, full(), "meet", "k", *told)

    def test_no_name_comes_ahead_of_no_step(self):
        self.refused(NoName, square(), "on", "a", "b", "b", HALF)
        self.refused(NoName, square(), "on", "A", "b", "b", HALF)
        self.refused(NoName, square(), "on", "p", "z", "z", HALF)
        self.refused(NoName, square(), "meet", "a", "a", "b", "d", "c")
        self.refused(NoName, square(), "meet", 0, "a", "b", "d", "c")
        self.refused(NoName, square(), "meet", "p", "a", "a", "b", "z")
        self.refused(NoName, square(), "meet", "p", "z", "b", "a", "a")

    def test_too_many_comes_ahead_of_no_step(self):
        self.refused(TooMany, full(), "on", "k", "a", "b", HALF)
        self.refused(TooMany, full(), "on", "k", "a", "a", HALF)
        self.refused(TooMany, full(), "meet", "k", "e", "f", "g", "h")
        self.refused(TooMany, full(), "meet", "k", "e", "f", "f", "e")
        self.refused(TooMany, full(), "meet", "k", "a", "a", "e", "f")
        self.refused(TooMany, full(), "meet", "k", "a", "b", "c", "e")

    def test_a_refused_drawing_goes_on(self):
        drawing = square()
        self.refused(NoStep, drawing, "meet", "p", *"abdc")
        self.refused(NoStep, drawing, "on", "p", "a", "a", HALF)
        self.refused(NoName, drawing, "put", "a", ZERO, ZERO)
        drawing.meet("p", "a", "c", "b", "d")
        self.assertEqual(drawing.place("p"), point(1, 1))
        self.assertEqual(drawing.built(), [("a", "c", "p"), ("b", "d", "p")])


class WalkTest(unittest.TestCase):
    """Many steps one behind the other, held against a second telling of the document's words."""

    def test_many_steps(self):
        numbers = Numbers(71)
        seen = {}
        for walk in range(80):
            drawing, points, lines = Drawing(), {}, set()
            words = list("abcdefghijklm") + ["aa", None, "A"]
            for number in range(40):
                deed = numbers.picked(["put", "on", "on", "meet", "meet"])
                if len(points) < 3:
                    deed = "put"
                many = {"put": 0, "on": 2, "meet": 4}[deed]
                new = numbers.picked(words)
                asked = [numbers.picked(list(points) or words) for place in range(many)]
                if many and numbers.below(8) == 0:
                    asked[numbers.below(many)] = numbers.picked(words)
                x, y, t = numbers.share(2), numbers.share(2), numbers.share(3)
                told = {"put": (x, y), "on": (*asked, t), "meet": asked}[deed]
                expected = self.expected(points, deed, new, asked, (x, y), t)
                try:
                    found = getattr(drawing, deed)(new, *told)
                except SaidError as error:
                    found = type(error)
                if isinstance(expected, tuple):
                    points[new] = expected
                    lines.update(in_order(new, *asked[place:place + 2]) for place in range(0, many, 2))
                    expected = None
                self.assertEqual(found, expected, (deed, new, told))
                seen[deed, expected] = seen.get((deed, expected), 0) + 1
                places = [points[name] for name in sorted(points)]
                self.assertEqual(all_of(drawing), (sorted(points), places, sorted(lines)))
            self.check_lines(drawing)
        for deed in ("put", "on", "meet"):
            for kind in (None, NoName, TooMany) + (() if deed == "put" else (NoStep,)):
                self.assertGreater(seen[deed, kind], 5, (deed, kind))

    def expected(self, points, deed, new, asked, place, t):
        if type(new) is not str or not new.islower() or new in points:
            return NoName
        if any(name not in points for name in asked):
            return NoName
        if len(points) == 10:
            return TooMany
        found = [points[name] for name in asked]
        if deed == "put":
            return place
        if deed == "on":
            return NoStep if found[0] == found[1] else between(*found, t)
        return crossing(*found) or NoStep

    def check_lines(self, drawing):
        told = drawing.built()
        self.assertEqual(told, sorted(set(told)))
        book = Book()
        for row in told:
            self.assertEqual(span(*[drawing.place(name) for name in row]), ZERO)
            book.say_line(*row)
        self.assertTrue(drawing.keeps(book))


class KeepsTest(unittest.TestCase):
    def check(self, drawing, book, expected):
        before = (all_of(drawing), rows_of(book))
        told = drawing.keeps(book)
        self.assertIs(type(told), bool)
        self.assertEqual(told, expected)
        self.assertEqual((all_of(drawing), rows_of(book)), before)

    def test_an_empty_book(self):
        self.check(Drawing(), Book(), True)
        self.check(square(), Book(), True)

    def test_lines_and_aparts(self):
        drawing = drawing_of(a=(0, 0), b=(1, 2), c=(2, 4), d=(1, 0), e=(2, 1))
        self.check(drawing, book_of(["a b c"]), True)
        self.check(drawing, book_of([], ["a b d"]), True)
        self.check(drawing, book_of(["a b c"], ["a b d", "b c d", "d e c"], []), True)

    def test_a_name_without_a_point(self):
        drawing = drawing_of(a=(0, 0), b=(1, 2), c=(2, 4), d=(1, 0))
        self.check(drawing, book_of(["a b c", "a b z"]), False)
        self.check(drawing, book_of(["a b c"], ["a b z"]), False)
        self.check(drawing, book_of(["x y z"]), False)
        self.check(Drawing(), book_of(["a b c"]), False)
        self.check(Drawing(), book_of([], ["a b c"]), False)
        drawing.put("z", *point(-1, -2))
        self.check(drawing, book_of(["a b c", "a b z"]), True)
        self.check(drawing, book_of(["a b c"], ["a b z"]), False)

    def test_a_line_with_another_span(self):
        drawing = drawing_of(a=(0, 0), b=(1, 2), c=(2, 4), d=(1, 0), e=(2, 1))
        self.check(drawing, book_of(["a b d"]), False)
        self.check(drawing, book_of(["a b c", "a b d"]), False)
        self.check(drawing, book_of(["a b d", "a b c"], ["d e c"]), False)
        self.check(drawing, book_of(["a b c", "c d e"], ["a b d"]), False)

    def test_by_a_small_span(self):
        small = 10 ** 59
        drawing = Drawing()
        drawing.put("a", ZERO, ZERO)
        drawing.put("b", ONE, ONE)
        drawing.put("c", (2, 1), (2 * small + 1, small))
        self.check(drawing, book_of(["a b c"]), False)
        self.check(drawing, book_of([], ["a b c"]), True)

    def test_an_apart_with_span_0(self):
        drawing = drawing_of(a=(0, 0), b=(1, 2), c=(2, 4), d=(1, 0), e=(2, 1))
        self.check(drawing, book_of([], ["a b c"]), False)
        self.check(drawing, book_of([], ["a b d", "a b c"]), False)
        self.check(drawing, book_of(["a b c"], ["a b d", "b c d"]), True)

    def test_two_names_at_one_place(self):
        drawing = drawing_of(a=(0, 0), b=(0, 0), c=(2, 4), d=(1, 0))
        self.check(drawing, book_of(["a b c"]), True)
        self.check(drawing, book_of([], ["a b c"]), False)
        self.check(drawing, book_of(["a b c", "a b d"], ["a c d"]), True)

    def test_more_names_than_the_book_has(self):
        drawing = drawing_of(a=(0, 0), b=(1, 2), c=(2, 4), d=(1, 0), e=(0, 0), zz=(3, 3))
        self.check(drawing, book_of(["a b c"]), True)

    def test_right_again_behind_further_rows_and_steps(self):
        drawing = drawing_of(a=(0, 0), b=(1, 2), d=(1, 0))
        book = book_of(["a b c"])
        self.check(drawing, book, False)
        drawing.on("c", "a", "b", HALF)
        self.check(drawing, book, True)
        book.say_apart("a", "b", "d")
        self.check(drawing, book, True)
        book.say_line("a", "c", "d")
        self.check(drawing, book, False)

    def test_known_books(self):
        pappus = drawing_of(a=(0, 0), b=(1, 0), d=(0, 3), e=(2, 4))
        pappus.on("c", "a", "b", (3, 1))
        pappus.on("f", "d", "e", (7, 2))
        pappus.meet("g", "a", "e", "b", "d")
        pappus.meet("h", "a", "f", "c", "d")
        pappus.meet("i", "b", "f", "c", "e")
        self.assertEqual(pappus.built(), sorted(tuple(row.split()) for row in PAPPUS))
        self.check(pappus, book_of(PAPPUS, others=["g h i"]), True)
        self.check(pappus, book_of(PAPPUS + ("g h i",), others=[]), True)
        self.check(pappus, book_of(PAPPUS, others=[]), False)
        desargues = drawing_of(o=(0, 0), a=(1, 0), b=(1, 2), c=(-1, 3))
        for name, other, t in (("d", "a", (3, 1)), ("e", "b", (2, 1)), ("f", "c", (5, 2))):
            desargues.on(name, "o", other, t)
        desargues.meet("p", "a", "b", "d", "e")
        desargues.meet("q", "b", "c", "e", "f")
        desargues.meet("r", "a", "c", "d", "f")
        self.assertEqual(desargues.built(), sorted(in_order(*row.split()) for row in DESARGUES))
        self.check(desargues, book_of(DESARGUES, others=["p q r"]), True)
        self.check(desargues, book_of(DESARGUES, others=[]), False)

    def test_mixed_books(self):
        numbers = Numbers(72)
        seen = {True: 0, False: 0}
        for number in range(200):
            drawing = drawing_of(**{name: (numbers.signed(2), numbers.signed(2)) for name in "abcde"})
            book = Book()
            for row in numbers.mixed(itertools.combinations("abcde", 3))[:1 + numbers.below(4)]:
                flat = span(*[drawing.place(name) for name in row]) == ZERO
                (book.say_line if flat != (numbers.below(5) == 0) else book.say_apart)(*row)
            spans = [span(*[drawing.place(name) for name in row]) for row in book.lines()]
            others = [span(*[drawing.place(name) for name in row]) for row in book.aparts()]
            expected = all(one == ZERO for one in spans) and ZERO not in others
            self.check(drawing, book, expected)
            seen[expected] += 1
        self.assertGreater(min(seen.values()), 40)


class OwnTest(unittest.TestCase):
    def test_told_lists_are_the_askers_own(self):
        drawing = square()
        drawing.meet("p", "a", "c", "b", "d")
        kept = copy.deepcopy(all_of(drawing))
        for told in (drawing.names(), drawing.built()):
            told.append("z")
            told.pop(0)
        self.assertEqual(all_of(drawing), kept)
        for told in (drawing.names(), drawing.built()):
            told.clear()
        drawing.put("q", ZERO, ONE)
        self.assertEqual(drawing.names(), kept[0] + ["q"])
        self.assertEqual(drawing.built(), kept[2])

    def test_a_told_list_is_not_changed_later(self):
        drawing = square()
        drawing.on("p", "a", "c", HALF)
        told = (drawing.names(), drawing.built())
        kept = copy.deepcopy(told)
        drawing.on("q", "a", "d", HALF)
        self.assertEqual(told, kept)

    def test_refused_things_are_as_they_were(self):
        things = copy.deepcopy(ANY_THINGS)
        for thing in ANY_THINGS:
            with self.assertRaises(NoName):
                square().meet(thing, thing, thing, thing, thing)
            with self.assertRaises(NoName):
                square().place(thing)
        self.assertEqual(ANY_THINGS, things)

    def test_a_book_is_not_kept(self):
        drawing = drawing_of(a=(0, 0), b=(1, 2), c=(2, 4))
        book = book_of(["a b c"])
        self.assertTrue(drawing.keeps(book))
        book.say_line("a", "b", "z")
        self.assertFalse(drawing.keeps(book))
        self.assertTrue(drawing.keeps(book_of(["a b c"])))


if __name__ == "__main__":
    unittest.main()

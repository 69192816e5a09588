import copy
import itertools
import time
import unittest

from helper import (
    ANY_THINGS, CHAIN, DESARGUES, FANO, PAPPUS, Numbers, book_of, chain_book, expected_exchanges, expected_targets,
    expected_vector, in_order, is_share, mixed_book, rows_of, weights_hold,
)
from linesaid.book import Book
from linesaid.drawings import Drawing
from linesaid.errors import NoName
from linesaid.finding import in_one_step, in_rounds
from linesaid.grounds import renamed, shortened, stands
from linesaid.points import span
from linesaid.sums import reach

# a, b, c and a, b, d lie on one line, so a, c, d do; x and y stand apart from it.
PAIR_LINES = ("a b c", "a b d")
PAIR_APARTS = ("a b x", "a b y", "a c x", "a c y", "a d x", "a d y", "a x y")
PAIR_STEP = (
    ("a", "c", "d"), ("a", "c", "d", "x", "y"), [(-1, ("a", "b", "c", "x", "y")), (1, ("a", "b", "d", "x", "y"))],
)


def first_reached(book, claim, grounded):
    vectors = [expected_vector(one) for one in expected_exchanges(book, grounded)]
    for target in expected_targets(book, claim):
        if reach(vectors, expected_vector(target))[0] == "sum":
            return target
    return None


def rounds_of(book, many):
    """By the document's words: what each of so many rounds grounds, dicts from claims to the target first reached."""
    settled = {*book.lines(), *book.aparts()}
    found = []
    grounded = []
    for number in range(many):
        left = [row for row in itertools.combinations(book.names(), 3) if row not in settled]
        reached = {row: first_reached(book, row, grounded) for row in left}
        found.append({row: target for row, target in reached.items() if target is not None})
        grounded = grounded + list(found[-1])
        settled.update(grounded)
    return found


class FindingTest(unittest.TestCase):
    """Each answer is held against the document's words, and against rounds that are told by a second way."""

    def check(self, book, claim, rounds, expected_rounds, kind=None):
        before = rows_of(book)
        told = in_rounds(book, *claim, rounds)
        self.assertEqual(rows_of(book), before)
        self.assertEqual((type(told), len(told), type(told[1])), (tuple, 2, list))
        claim = in_order(*claim)
        if claim in book.lines():
            self.assertEqual(told, ("ground", []))
        elif told[0] == "ground":
            self.check_ground(book, claim, expected_rounds[:rounds], told[1])
        else:
            self.assertEqual(told[0], "open")
            self.check_open(book, claim, expected_rounds[:rounds], told[1])
        if kind is not None:
            self.assertEqual(told[0], kind, (claim, rounds))
        if rounds == 0:
            self.assertEqual(in_one_step(book, *claim), told)
        return told

    def check_ground(self, book, claim, rounds, steps):
        self.assertTrue(stands(book, steps))
        self.assertEqual(steps[-1][0], claim)
        self.assertEqual(shortened(steps), steps)
        places = [self.place_of(rounds, one[0]) for one in steps]
        self.assertEqual(places, sorted(places))
        self.assertEqual(len(set(places)), len(places))
        for place, one in zip(places, steps):
            self.check_step(book, one, rounds[:place[0]])

    def place_of(self, rounds, claim):
        """In which round it is grounded, and as what; behind all rounds where in none."""
        found = [number for number, reached in enumerate(rounds) if claim in reached]
        return (found[0] if found else len(rounds), claim)

    def check_step(self, book, step, rounds_ahead):
        claim, target, parts = step
        grounded = [row for reached in rounds_ahead for row in reached]
        self.assertEqual(target, first_reached(book, claim, grounded))
        fives = [exchange for often, exchange in parts]
        self.assertEqual(fives, sorted(set(fives)))
        self.assertLessEqual(set(fives), set(expected_exchanges(book, grounded)))
        self.assertTrue(all(type(often) is int and often != 0 for often, exchange in parts))
        self.assertEqual((type(step), type(parts)), (tuple, list))

    def check_open(self, book, claim, rounds, found):
        self.assertEqual([target for target, weights in found], expected_targets(book, claim))
        grounded = [row for reached in rounds for row in reached]
        self.assertNotIn(claim, grounded)
        vectors = [expected_vector(one) for one in expected_exchanges(book, grounded)]
        for target, weights in found:
            self.assertIs(type(weights), dict)
            self.assertTrue(all(type(key) is tuple and is_share(weight) for key, weight in weights.items()))
            self.assertTrue(weights_hold(vectors, expected_vector(target), weights))


class OneStepTest(FindingTest):
    def test_written_out(self):
        book = book_of(PAIR_LINES, PAIR_APARTS)
        self.assertEqual(in_one_step(book, "a", "c", "d"), ("ground", [PAIR_STEP]))

    def test_a_line(self):
        book = book_of(PAIR_LINES, PAIR_APARTS)
        for line in ("abc", "abd"):
            for told in itertools.permutations(line):
                self.assertEqual(in_one_step(book, *told), ("ground", []))
        # Of a line that other lines reach, too, no step is told.
        self.assertEqual(in_one_step(book_of(PAIR_LINES + ("a c d",), PAIR_APARTS), *"acd"), ("ground", []))

    def test_names_in_any_order(self):
        book = book_of(PAIR_LINES, PAIR_APARTS)
        for told in itertools.permutations("acd"):
            self.assertEqual(in_one_step(book, *told), ("ground", [PAIR_STEP]))
        for told in itertools.permutations("bcd"):
            self.assertEqual(in_one_step(book, *told), ("open", []))

    def test_open_with_weights(self):
        for gone in PAIR_LINES:
            rows = [row for row in PAIR_LINES if row != gone]
            told = self.check(book_of(rows, PAIR_APARTS), "acd", 0, [], "open")
            self.assertEqual([target for target, weights in told[1]], [("a", "c", "d", "x", "y")])
        self.check(book_of([], PAIR_APARTS), "acd", 0, [], "open")

    def test_without_targets(self):
        for gone in PAIR_APARTS[2:]:
            book = book_of(PAIR_LINES, [row for row in PAIR_APARTS if row != gone])
            self.assertEqual(in_one_step(book, *"acd"), ("open", []))
        self.assertEqual(in_one_step(book_of(PAIR_LINES), *"acd"), ("open", []))
        self.assertEqual(in_one_step(book_of(["a b c"], ["a b d"]), *"acd"), ("open", []))

    def test_a_part_without_its_needs(self):
        for gone in PAIR_APARTS[:2]:
            book = book_of(PAIR_LINES, [row for row in PAIR_APARTS if row != gone])
            self.check(book, "acd", 0, [], "open")
            self.assertEqual(len(in_one_step(book, *"acd")[1]), 1)

    def test_the_first_target_that_is_reached(self):
        # By c alone: what is said of a and d doesn't come together, though there is a target with a as its first.
        aparts = ["a c x", "a c y", "b c x", "b c y", "c d x", "c d y", "c x y", "a d x", "a d y", "a x y"]
        book = book_of(["a b c", "b c d"], aparts)
        self.assertEqual(expected_targets(book, tuple("acd"))[0], tuple("acdxy"))
        told = self.check(book, "acd", 0, [], "ground")
        self.assertEqual(told[1][0][1], tuple("cadxy"))
        # Both are reached: the first is told.
        book = book_of(["a b c", "a b d", "b c d"], aparts + ["a b x", "a b y"])
        told = self.check(book, "acd", 0, [], "ground")
        self.assertEqual(told[1][0][1], tuple("acdxy"))

    def test_known_books(self):
        for rows, claim in ((PAPPUS, "g h i"), (DESARGUES, "p q r")):
            told = self.check(book_of(rows, others=[claim]), claim.split(), 0, [], "ground")
            self.assertEqual(len(told[1]), 1)
            for left in range(0, len(rows), 2):
                fewer = [row for place, row in enumerate(rows) if place != left]
                told = self.check(book_of(fewer, others=[claim]), claim.split(), 0, [], "open")
                self.assertGreater(len(told[1]), 30)

    def test_each_line_of_pappus_by_the_others(self):
        rows = PAPPUS + ("g h i",)
        for claim in rows:
            fewer = [row for row in rows if row != claim]
            self.check(book_of(fewer, others=[claim]), claim.split(), 0, [], "ground")

    def test_where_only_a_sign_is_wrong(self):
        # No drawing with fractions has the seven lines: by an odd number at () no target is reached.
        rows = FANO + ("c e f",)
        for claim in rows:
            book = book_of([row for row in rows if row != claim], others=[claim])
            told = self.check(book, claim.split(), 0, [], "open")
            vectors = [expected_vector(one) for one in expected_exchanges(book)]
            for target, weights in told[1]:
                turned = expected_vector(target)
                turned[()] = turned.get((), 0) + 1
                self.assertEqual(reach(vectors, turned)[0], "sum")

    def test_a_triple_that_is_apart(self):
        # Grounded only where no drawing keeps the book.
        self.check(book_of(PAIR_LINES, PAIR_APARTS + ("a c d",)), "acd", 0, [], "ground")
        self.check(book_of(PAPPUS, others=[]), "ghi", 0, [], "ground")
        self.check(book_of(PAPPUS, others=[]), "abd", 0, [])
        self.check(book_of(PAPPUS[1:], others=[]), "ghi", 0, [], "open")
        self.check(book_of(PAPPUS[1:], others=[]), "abd", 0, [], "open")

    def test_right_again_behind_further_rows(self):
        book = book_of(PAIR_LINES[:1], PAIR_APARTS[:6])
        book.say_apart("a", "d", "z")
        self.assertEqual(in_one_step(book, *"acd"), ("open", []))
        book.say_apart("a", "x", "y")
        self.check(book, "acd", 0, [], "open")
        book.say_line("a", "b", "d")
        self.assertEqual(in_one_step(book, *"acd"), ("ground", [PAIR_STEP]))
        book.say_line("a", "c", "d")
        self.assertEqual(in_one_step(book, *"acd"), ("ground", []))

    def test_mixed_books(self):
        numbers = Numbers(61)
        kinds = {"ground": 0, "open": 0}
        for many in (5, 6, 7):
            for lines in (1, 3, 5, 7):
                for gone in (0, 3, 6):
                    book = mixed_book(numbers, many, min(lines, many - 4 + lines // 3), gone)
                    for claim in numbers.mixed(itertools.combinations(book.names(), 3))[:6]:
                        told = self.check(book, claim, 0, [])
                        if told[1]:
                            kinds[told[0]] += 1
        self.assertGreater(min(kinds.values()), 20, kinds)


class RoundsTest(FindingTest):
    @classmethod
    def setUpClass(cls):
        cls.chain_rounds = rounds_of(chain_book(), 4)

    def test_how_many_rounds_are_wanted(self):
        wanted = {"acd": 0, "bcd": 0, "ace": 1, "bde": 1, "abf": 2, "cef": 2, "efg": 3, "fgh": 4, "agh": 4}
        for claim, rounds in wanted.items():
            for more in range(5):
                kind = "ground" if more >= rounds else "open"
                self.check(chain_book(), claim, more, self.chain_rounds, kind)

    def test_each_triple_of_the_chain(self):
        book = chain_book()
        kinds = set()
        for place, claim in enumerate(itertools.combinations("abcdefgh", 3)):
            for rounds in (place % 4, 3):
                told = self.check(book, claim, rounds, self.chain_rounds)
                kinds.add((told[0], rounds, len(told[1])))
        self.assertLessEqual({("ground", 3, 0), ("ground", 3, 1), ("ground", 3, 2), ("open", 3, 3)}, kinds)

    def test_the_order_of_the_steps(self):
        # Two of one round stand in the order of their claims, those of an earlier round ahead, whatever their order.
        seen = set()
        for claim in itertools.combinations("abcdefgh", 3):
            told = in_rounds(chain_book(), *claim, 3)
            if told[0] == "ground":
                places = [self.place_of(self.chain_rounds[:3], step[0]) for step in told[1]]
                self.assertEqual(places, sorted(places))
                seen.update((one[0] == other[0], one[1] < other[1]) for one, other in zip(places, places[1:]))
        self.assertIn((True, True), seen)
        self.assertIn((False, False), seen)

    def test_written_out(self):
        second = (
            ("a", "c", "e"), ("c", "a", "e", "x", "y"),
            [(1, ("c", "a", "d", "x", "y")), (1, ("c", "d", "e", "x", "y"))],
        )
        aparts = PAIR_APARTS + ("c d x", "c d y", "c e x", "c e y", "c x y")
        book = book_of(PAIR_LINES + ("c d e",), aparts)
        self.assertEqual(in_rounds(book, *"ace", 0)[0], "open")
        for rounds in (1, 2, 3):
            for told in itertools.permutations("ace"):
                self.assertEqual(in_rounds(book, *told, rounds), ("ground", [PAIR_STEP, second]))

    def test_a_line(self):
        for rounds in range(4):
            for line in CHAIN:
                self.assertEqual(in_rounds(chain_book(), *line.split(), rounds), ("ground", []))

    def test_a_triple_that_is_apart(self):
        # It is not tried in the rounds, so nothing rests on it; behind them it is tried.
        for claim in ("acd", "ace", "abf"):
            book = book_of(CHAIN, [name + " x y" for name in "abcdefgh"])
            book.say_apart(*claim)
            book.say_others(list(itertools.combinations("abcdefgh", 3)))
            rounds = rounds_of(book, 3)
            self.assertTrue(all(tuple(claim) not in reached for reached in rounds))
            kinds = [self.check(book, claim, many, rounds)[0] for many in range(4)]
            self.assertEqual(kinds[3], "ground")
            for other in ("ace", "abf", "efg", "fgh"):
                self.check(book, other, 3, rounds)

    def test_open_by_the_lines_and_all_that_was_grounded(self):
        for rounds in range(4):
            for claim in ("fgh", "agh", "efh"):
                told = self.check(chain_book(), claim, rounds, self.chain_rounds, "open")
                self.assertEqual(len(told[1]), 3)
        # Weights of no round at all don't hold against what was grounded by then.
        told = in_rounds(chain_book(), *"fgh", 0)[1]
        grounded = [row for reached in self.chain_rounds[:3] for row in reached]
        vectors = [expected_vector(one) for one in expected_exchanges(chain_book(), grounded)]
        self.assertEqual(len(told), 3)
        self.assertTrue(any(not weights_hold(vectors, expected_vector(one), weights) for one, weights in told))

    def test_without_targets(self):
        book = book_of(PAIR_LINES, PAIR_APARTS)
        for rounds in range(4):
            self.assertEqual(in_rounds(book, *"bcd", rounds), ("open", []))

    def test_mixed_books(self):
        numbers = Numbers(62)
        seen = set()
        for many in (6, 7):
            for lines in (3, 4, 5):
                for gone in (6, 10, 14):
                    book = mixed_book(numbers, many, lines, gone)
                    expected = rounds_of(book, 3)
                    for claim in numbers.mixed(itertools.combinations(book.names(), 3))[:8]:
                        for rounds in range(4):
                            told = self.check(book, claim, rounds, expected)
                            seen.add((told[0], rounds, min(len(told[1]), 2)))
        self.assertIn(("ground", 1, 2), seen)
        self.assertIn(("open", 3, 2), seen)

    def test_right_again_behind_further_rows(self):
        book = chain_book()
        kind = in_rounds(book, *"fgh", 3)[0]
        self.assertEqual(kind, "open")
        book.say_line("a", "c", "d")
        self.check(book, "fgh", 3, rounds_of(book, 3), "ground")
        self.check(chain_book(), "fgh", 3, self.chain_rounds, "open")


class NamesTest(FindingTest):
    def test_whether_it_is_grounded_does_not_hang_on_the_names(self):
        numbers = Numbers(63)
        words = ["a", "aa", "ab", "b", "ba", "c", "h", "o", "z", "zz", "q", "abcdefgh", "hgfedcba"]
        books = [(book_of(PAPPUS, others=["g h i"]), "ghi"), (book_of(DESARGUES, others=["p q r"]), "pqr")]
        books.append((book_of(FANO, others=["c e f"]), "cef"))
        books.extend((chain_book(), claim) for claim in ("acd", "ace", "abf", "efg", "fgh"))
        for book, claim in books:
            for number in range(2):
                by = dict(zip(book.names(), numbers.mixed(words)))
                other = Book()
                for row in book.lines():
                    other.say_line(*[by[name] for name in row])
                for row in book.aparts():
                    other.say_apart(*[by[name] for name in row])
                for rounds in range(4):
                    one_told = in_rounds(book, *claim, rounds)
                    other_told = in_rounds(other, *[by[name] for name in claim], rounds)
                    self.assertEqual(one_told[0], other_told[0])
                    if one_told[0] == "ground":
                        self.assertTrue(stands(other, renamed(one_told[1], by)))
                        self.assertTrue(stands(other, other_told[1]))
                    else:
                        self.assertEqual(len(one_told[1]), len(other_told[1]))


class DrawnTest(unittest.TestCase):
    def test_the_claim_lies_on_one_line_in_drawings_that_keep_the_book(self):
        numbers = Numbers(64)
        book = book_of(PAPPUS, others=["g h i"])
        self.assertEqual(in_one_step(book, *"ghi")[0], "ground")
        kept = 0
        for number in range(30):
            drawing = Drawing()
            for name in "abde":
                drawing.put(name, *numbers.point(20))
            drawing.on("c", "a", "b", numbers.share(9))
            drawing.on("f", "d", "e", numbers.share(9))
            drawing.meet("g", "a", "e", "b", "d")
            drawing.meet("h", "a", "f", "c", "d")
            drawing.meet("i", "b", "f", "c", "e")
            if drawing.keeps(book):
                kept += 1
                self.assertEqual(span(drawing.place("g"), drawing.place("h"), drawing.place("i")), (0, 1))
        self.assertGreater(kept, 10)

    def test_the_chain(self):
        book = chain_book()
        drawing = Drawing()
        drawing.put("a", (0, 1), (1, 2))
        drawing.put("b", (3, 1), (-1, 1))
        for place, name in enumerate("cdefgh"):
            drawing.on(name, "a", "b", (2 * place - 5, 3 if place % 3 == 0 else 2))
        drawing.put("x", (1, 1), (7, 3))
        drawing.put("y", (-5, 2), (4, 1))
        self.assertTrue(drawing.keeps(book))
        for claim in list(itertools.combinations(book.names(), 3))[::3]:
            told = in_rounds(book, *claim, 3)
            if told[0] == "ground":
                self.assertEqual(span(*[drawing.place(name) for name in claim]), (0, 1))


class RefusalTest(unittest.TestCase):
    def refused(self, book, *told):
        before = rows_of(book)
        for rounds in (0, 1, 3):
            with self.assertRaises(NoName):
                in_rounds(book, *told, rounds)
        with self.assertRaises(NoName):
            in_one_step(book, *told)
        self.assertEqual(rows_of(book), before)

    def test_a_thing_that_is_no_name(self):
        for thing in ANY_THINGS:
            for book in (Book(), book_of(PAIR_LINES, PAIR_APARTS)):
                for place in range(3):
                    told = list("acd")
                    told[place] = thing
                    self.refused(book, *told)
                self.refused(book, thing, thing, thing)

    def test_a_name_that_the_book_has_not(self):
        book = book_of(PAIR_LINES, PAIR_APARTS)
        for name in ("e", "z", "aa", "ab", "abcdefgh"):
            for place in range(3):
                told = list("acd")
                told[place] = name
                self.refused(book, *told)
        self.refused(book, "p", "q", "r")

    def test_two_alike(self):
        book = book_of(PAIR_LINES, PAIR_APARTS)
        for told in ("aac", "aca", "caa", "aaa", "xxy"):
            self.refused(book, *told)

    def test_an_empty_book(self):
        self.refused(Book(), "a", "b", "c")
        self.refused(Book(), "a", "a", "a")

    def test_a_name_that_comes_by_a_later_row(self):
        book = book_of(PAIR_LINES, PAIR_APARTS)
        self.refused(book, "a", "b", "z")
        book.say_apart("a", "b", "z")
        self.assertEqual(in_one_step(book, "a", "b", "z")[0], "open")

    def test_a_name_of_aparts_alone(self):
        self.assertEqual(in_one_step(book_of([], ["a b c"]), "c", "a", "b"), ("open", []))


class TimeTest(FindingTest):
    """Books of ten names, of which few triples are neither lines nor apart, in a time that can be waited for."""

    def timed(self, book, claim):
        self.assertEqual(len(book.names()), 10)
        start = time.monotonic()
        told = [in_rounds(book, *claim, rounds) for rounds in (0, 1, 3)]
        self.assertLess(time.monotonic() - start, 60)
        return told

    def test_five_lines_of_four(self):
        # Each two of five lines meet in one of ten points: twenty lines of three.
        names = dict(zip(itertools.combinations(range(5), 2), "abcdefghij"))
        rows = []
        for line in range(5):
            four = [name for pair, name in names.items() if line in pair]
            rows.extend(" ".join(three) for three in itertools.combinations(four, 3))
        self.assertEqual(len(rows), 20)
        for left in (["a b e"], ["a b e", "a b f", "c d h", "g h i"]):
            book = book_of(rows, others=left)
            told = self.timed(book, left[0].split())
            self.assertEqual([kind for kind, found in told], ["open"] * 3)
            self.check(book, left[0].split(), 0, [], "open")

    def test_desargues_with_more_triples_left(self):
        left = ["p q r", "a b c", "d e f", "o p q", "a e q", "b d r", "c o p", "a f q"]
        book = book_of(DESARGUES, others=left)
        told = self.timed(book, "pqr")
        self.assertEqual([kind for kind, found in told], ["ground"] * 3)
        for kind, found in told:
            self.assertTrue(stands(book, found))
            self.assertEqual(len(found), 1)
        for claim in left[1:]:
            self.timed(book, claim.split())

    def test_mixed_books(self):
        numbers = Numbers(65)
        for lines in (5, 9, 13):
            rows = self.lines_with_at_most_one_name_in_common(numbers, lines)
            left = [" ".join(row) for row in numbers.mixed(itertools.combinations("abcdefghij", 3))]
            left = [row for row in left if row not in rows][:10]
            book = book_of(rows, ["a b c", "d e f", "g h i", "a i j"] if lines == 5 else [], left)
            if len(book.names()) == 10:
                for claim in left[:3]:
                    for kind, found in self.timed(book, claim.split()):
                        self.assertTrue(kind == "open" or stands(book, found))

    def lines_with_at_most_one_name_in_common(self, numbers, most):
        taken, rows = set(), []
        for row in numbers.mixed(itertools.combinations("abcdefghij", 3)):
            pairs = set(itertools.combinations(row, 2))
            if not pairs & taken and len(rows) < most:
                taken |= pairs
                rows.append(" ".join(row))
        return rows


class OwnTest(unittest.TestCase):
    def cases(self):
        return ((chain_book(), "efg", 3), (chain_book(), "fgh", 3), (book_of(PAPPUS, others=["g h i"]), "ghi", 0),
                (book_of(PAPPUS[1:], others=["g h i"]), "ghi", 1), (chain_book(), "abc", 2), (chain_book(), "abc", 0))

    def test_what_is_told_is_the_askers_own(self):
        for book, claim, rounds in self.cases():
            told = in_rounds(book, *claim, rounds)
            kept = copy.deepcopy(told)
            for one in told[1]:
                one[-1].clear()
            told[1].append("z")
            told[1].reverse()
            self.assertEqual(in_rounds(book, *claim, rounds), kept)
            if rounds == 0:
                self.assertEqual(in_one_step(book, *claim), kept)

    def test_what_is_told_is_not_changed_later(self):
        for book, claim, rounds in self.cases():
            told = in_rounds(book, *claim, rounds)
            kept = copy.deepcopy(told)
            in_rounds(book, *claim, 3)
            in_one_step(book, *claim)
            if claim != "abc":
                book.say_line(*claim)
            book.say_others([])
            in_rounds(book, *claim, rounds)
            self.assertEqual(told, kept)

    def test_no_list_or_dict_stands_at_two_places(self):
        for book, claim, rounds in self.cases():
            told = in_rounds(book, *claim, rounds)
            inner = [id(one[-1]) for one in told[1]]
            self.assertEqual(len(set(inner)), len(inner))

    def test_the_same_again(self):
        for book, claim, rounds in self.cases():
            told = in_rounds(book, *claim, rounds)
            self.assertEqual(in_rounds(book, *claim, rounds), told)


if __name__ == "__main__":
    unittest.main()

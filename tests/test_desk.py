import copy
import itertools
import re
import unittest

from helper import (
    ANY_THINGS, CHAIN, DESARGUES, FANO, PAPPUS, SECOND_TRY, Numbers, expected_plan, expected_refutation, fraction,
)
from linesaid.book import Book
from linesaid.desk import Desk
from linesaid.errors import NoName, NoRow, NoText, SaidError, TooMany
from linesaid.finding import in_rounds
from linesaid.grounds import stands
from linesaid.texts import read_ground, show_ground

ASKED = ("names", "lines", "aparts", "plan")

PAIR_APARTS = ("a b x", "a b y", "a c x", "a c y", "a d x", "a d y", "a x y")
PAIR_GROUND = "a c d: a c d x y = -1*a.b.c.x.y 1*a.b.d.x.y"


def desk_of(*said):
    desk = Desk()
    for row in said:
        assert desk.say(row) == "ok", row
    return desk


def lines(rows):
    return ["line " + row for row in rows]


def aparts(rows):
    return ["apart " + row for row in rows]


def pair_desk():
    """a b c and a b d lie on lines, so a c d do: PAIR_GROUND."""
    return desk_of("line a b c", "line a b d", *aparts(PAIR_APARTS))


def chain_desk():
    desk = desk_of(*lines(CHAIN), *aparts(name + " x y" for name in "abcdefgh"))
    for one, other in itertools.combinations("abcdefgh", 2):
        for far in "xy":
            desk.say(f"apart {one} {other} {far}")
    return desk


def pappus_desk(rows=PAPPUS):
    return desk_of(*lines(rows), "others g h i")


def full_desk():
    """Ten names, and a b c apart."""
    return desk_of("apart a b c", "line d e f", "line g h i", "line a d j")


def all_of(desk):
    return [desk.say(row) for row in ASKED]


class DeskTest(unittest.TestCase):
    def refused(self, kind, desk, *rows):
        for row in rows:
            with self.subTest(row=row):
                before = all_of(desk)
                with self.assertRaises(SaidError) as caught:
                    desk.say(row)
                self.assertIs(type(caught.exception), kind)
                self.assertEqual(all_of(desk), before)


class SaidTest(DeskTest):
    def test_lines(self):
        desk = Desk()
        self.assertEqual(desk.say("line c a b"), "ok")
        self.assertEqual(all_of(desk), ["a b c", "a b c", "none", "plan a b c"])
        self.assertEqual(desk.say("line b a zz"), "ok")
        self.assertEqual(desk.say("line a b c"), "ok")
        self.assertEqual(all_of(desk), ["a b c zz", "a b c; a b zz", "none", "plan a b c zz"])

    def test_aparts(self):
        desk = Desk()
        self.assertEqual(desk.say("apart c a b"), "ok")
        self.assertEqual(all_of(desk), ["a b c", "none", "a b c", "plan a b c"])
        self.assertEqual(desk.say("apart a ab abcdefgh"), "ok")
        self.assertEqual(desk.say("apart b c a"), "ok")
        self.assertEqual(desk.say("aparts"), "a ab abcdefgh; a b c")
        self.assertEqual(desk.say("names"), "a ab abcdefgh b c")

    def test_a_meet(self):
        desk = Desk()
        self.assertEqual(desk.say("meet p c d b a"), "ok")
        self.assertEqual(all_of(desk), ["a b c d p", "a b p; c d p", "none", "plan a b c d p"])
        self.assertEqual(desk.say("meet a b c b d"), "ok")
        self.assertEqual(desk.say("lines"), "a b c; a b d; a b p; c d p")

    def test_words_of_rows_as_names(self):
        desk = desk_of("line line apart meet", "apart names none plan", "meet others ground claim line core")
        self.assertEqual(desk.say("names"), "apart claim core ground line meet names none others plan")
        self.assertEqual(desk.say("lines"), "apart line meet; claim ground others; core line others")
        self.assertEqual(desk.say("aparts"), "names none plan")
        self.assertEqual(desk.say("claim line apart meet 0 0"), "grounded 0")

    def test_others(self):
        desk = desk_of("line a b c", "line a d e")
        self.assertEqual(desk.say("others"), "ok")
        self.assertEqual(desk.say("aparts"), "a b d; a b e; a c d; a c e; b c d; b c e; b d e; c d e")
        self.assertEqual(desk.say("others"), "ok")
        self.assertEqual(desk.say("lines"), "a b c; a d e")

    def test_others_but_for_a_triple(self):
        for told in itertools.permutations("bde"):
            desk = desk_of("line a b c", "line a d e")
            self.assertEqual(desk.say("others " + " ".join(told)), "ok")
            self.assertEqual(desk.say("aparts"), "a b d; a b e; a c d; a c e; b c d; b c e; c d e")
        # It may be said of names that the book has not, of a line, and of what is apart already.
        for told in ("x y z", "a b z", "a b c", "c d e"):
            desk = desk_of("line a b c", "line a d e", "apart c d e")
            self.assertEqual(desk.say("others " + told), "ok")
            self.assertEqual(desk.say("aparts"), "a b d; a b e; a c d; a c e; b c d; b c e; b d e; c d e")
            self.assertEqual(desk.say("names"), "a b c d e")

    def test_others_of_an_empty_desk(self):
        for row in ("others", "others a b c"):
            desk = desk_of(row)
            self.assertEqual(all_of(desk), ["none", "none", "none", "plan"])

    def test_ten_names_and_twenty_lines(self):
        threes = [" ".join(row) for row in itertools.combinations("abcdefg", 3)]
        desk = desk_of(*lines(threes[:20]), "apart h i j")
        self.assertEqual(desk.say("names"), "a b c d e f g h i j")
        self.assertEqual(desk.say("lines"), "; ".join(threes[:20]))
        self.refused(TooMany, desk, "line " + threes[20], "apart a b k", "line a b k")
        self.assertEqual(desk.say("line " + threes[3]), "ok")
        self.assertEqual(desk.say("apart " + threes[20]), "ok")


class AskedTest(DeskTest):
    def test_an_empty_desk(self):
        desk = Desk()
        self.assertEqual(desk.say("names"), "none")
        self.assertEqual(desk.say("lines"), "none")
        self.assertEqual(desk.say("aparts"), "none")
        self.assertEqual(desk.say("plan"), "plan")
        self.assertEqual(desk.say("stands none"), "yes")
        self.assertEqual(desk.say("stands " + PAIR_GROUND), "no")
        self.refused(NoName, desk, "ground a b c 0", "claim a b c 0 0", "claim a b c 3 30")

    def test_a_plan(self):
        self.assertEqual(desk_of("apart c b a").say("plan"), "plan a b c")
        self.assertEqual(desk_of(*lines(PAPPUS)).say("plan"), "plan a b c d e f g h i")
        self.assertEqual(desk_of(*lines(DESARGUES)).say("plan"), "plan a b c d e o f p q r")
        self.assertEqual(desk_of(*lines(FANO)).say("plan"), "plan a b c d e g f")

    def test_a_core(self):
        self.assertEqual(desk_of(*lines(PAPPUS + ("g h i",))).say("plan"), "core a b c d e f g h i")
        rows = ["b c x", "b c y", "b x y", "c x y", "a b z", "a d z"]
        self.assertEqual(desk_of(*lines(rows)).say("plan"), "core b c x y")

    def test_a_ground(self):
        for rounds in range(4):
            for told in itertools.permutations("acd"):
                self.assertEqual(pair_desk().say(f"ground {' '.join(told)} {rounds}"), PAIR_GROUND)
            self.assertEqual(pair_desk().say(f"ground a b c {rounds}"), "none")
            self.assertEqual(pair_desk().say(f"ground d a b {rounds}"), "none")

    def test_a_ground_in_rounds(self):
        desk = chain_desk()
        for claim, wanted in (("a c d", 0), ("a c e", 1), ("a b f", 2), ("e f g", 3), ("f g h", 4)):
            for rounds in range(4):
                told = desk.say(f"ground {claim} {rounds}")
                if rounds < wanted:
                    self.assertEqual(told, "open 3")
                else:
                    self.assertEqual(read_ground(told)[-1][0], tuple(claim.split()))
                    self.assertEqual(desk.say("stands " + told), "yes")
                    self.assertEqual(desk.say(f"claim {claim} {rounds} 30"), f"grounded {len(read_ground(told))}")

    def test_open_with_the_number_of_targets(self):
        self.assertEqual(pair_desk().say("ground b c d 0"), "open 0")
        self.assertEqual(desk_of("line a b c", *aparts(PAIR_APARTS)).say("ground a c d 3"), "open 1")
        self.assertEqual(desk_of("apart a b c").say("ground a b c 0"), "open 0")
        desk = pappus_desk(PAPPUS[1:])
        book = Book()
        for row in PAPPUS[1:]:
            book.say_line(*row.split())
        book.say_others([("g", "h", "i")])
        told = in_rounds(book, *"ghi", 0)
        self.assertEqual(desk.say("ground g h i 0"), f"open {len(told[1])}")
        self.assertGreater(len(told[1]), 9)

    def test_grounded_with_the_number_of_steps(self):
        for tries in (0, 1, 30):
            self.assertEqual(pair_desk().say(f"claim a c d 0 {tries}"), "grounded 1")
            self.assertEqual(pair_desk().say(f"claim c b a 3 {tries}"), "grounded 0")
            self.assertEqual(pappus_desk().say(f"claim i h g 1 {tries}"), "grounded 1")
        desk = chain_desk()
        self.assertEqual(desk.say("claim a c e 1 0"), "grounded 2")
        for claim in itertools.islice(itertools.combinations("abcdefgh", 3), 0, None, 5):
            for rounds in (1, 3):
                told = desk.say(f"ground {' '.join(claim)} {rounds}")
                answer = desk.say(f"claim {' '.join(claim)} {rounds} 2")
                if told.startswith("open"):
                    self.assertEqual(answer, "open")
                else:
                    self.assertEqual(answer, f"grounded {len(read_ground(told))}")

    def test_refuted_with_the_points(self):
        desk = desk_of("apart c b a")
        for row in ("claim a b c 0 1", "claim c a b 3 30"):
            self.assertEqual(desk.say(row), "refuted a -1 7/2; b -4/3 -11; c 9/2 10/3")
        desk = desk_of("line a b c", "apart a b d")
        self.assertEqual(desk.say("claim a c d 0 1"), "refuted a -1 7/2; b -4/3 -11; c -5/2 -247/4; d 10/3 -8")

    def test_points_in_the_order_of_their_names(self):
        # f is drawn behind g, aa ahead of b.
        desk = desk_of(*lines(FANO), "apart a aa b")
        self.assertEqual(desk.say("plan"), "plan a aa b c d e g f")
        told = desk.say("claim c e f 0 1")
        self.assertTrue(told.startswith("refuted a "))
        self.assertEqual([piece.split(" ")[0] for piece in told[8:].split("; ")], "a aa b c d e f g".split())

    def test_refuted_by_a_later_try(self):
        desk = desk_of(*lines(SECOND_TRY), "apart a b e", "others")
        self.assertEqual(desk.say("claim a b d 0 0"), "open")
        self.assertEqual(desk.say("claim a b d 3 1"), "open")
        told = desk.say("claim a b d 0 2")
        self.assertTrue(told.startswith("refuted a 2 -7/3; b 11 -11/2; c "), told)
        self.assertEqual(desk.say("claim d b a 3 30"), told)

    def test_open(self):
        self.assertEqual(pair_desk().say("claim b c d 0 0"), "open")
        self.assertEqual(pair_desk().say("claim b c d 3 30"), "open")
        self.assertEqual(pappus_desk(PAPPUS[1:]).say("claim g h i 3 0"), "open")
        self.assertTrue(pappus_desk(PAPPUS[1:]).say("claim g h i 3 1").startswith("refuted a "))

    def test_stands(self):
        desk = pair_desk()
        self.assertEqual(desk.say("stands none"), "yes")
        self.assertEqual(desk.say("stands " + PAIR_GROUND), "yes")
        self.assertEqual(desk.say(f"stands {PAIR_GROUND}; {PAIR_GROUND}"), "yes")
        for ground in ("a c d: a c d x y =", "a c d: a c d x y = 1*a.b.c.x.y 1*a.b.d.x.y",
                       "a c d: a c d x y = -1*a.b.c.x.y", "b c d: b c d x y = -1*b.a.c.x.y 1*b.a.d.x.y",
                       PAIR_GROUND + "; a c e: c a e x y = 1*c.a.d.x.y 1*c.d.e.x.y",
                       "p q r: p q r s t = 1*p.q.r.s.t", "a c d: a c d x y = 1*a.c.d.x.y"):
            self.assertEqual(desk.say("stands " + ground), "no")
        again = "a c d: a c d x y = 1*a.c.d.x.y"
        self.assertEqual(desk.say(f"stands {PAIR_GROUND}; {again}"), "yes")
        self.assertEqual(desk.say(f"stands {again}; {PAIR_GROUND}"), "no")
        # What stood is not said by that.
        self.assertEqual(desk.say("lines"), "a b c; a b d")

    def test_stands_hangs_on_the_rows_that_are_used(self):
        rows = ["line a b c", "line a b d", *aparts(PAIR_APARTS)]
        self.assertEqual(desk_of(*rows).say("stands " + PAIR_GROUND), "yes")
        for row in rows:
            fewer = [one for one in rows if one != row]
            self.assertEqual(desk_of(*fewer).say("stands " + PAIR_GROUND), "no")
        self.assertEqual(desk_of(*rows, "apart p q r", "line a p x").say("stands " + PAIR_GROUND), "yes")

    def test_asking_changes_nothing(self):
        desk = pair_desk()
        before = all_of(desk)
        for row in ("names", "lines", "aparts", "plan", "ground a c d 3", "claim a c d 3 30", "claim a x y 0 30",
                    "stands " + PAIR_GROUND, "stands none", "ground b c d 3"):
            one = desk.say(row)
            self.assertEqual(all_of(desk), before)
            self.assertEqual(desk.say(row), one)

    def test_right_again_behind_further_rows(self):
        desk = desk_of(*lines(PAPPUS[1:]), "others g h i")
        self.assertTrue(desk.say("claim g h i 0 1").startswith("refuted"))
        desk = desk_of(*lines(PAPPUS[1:]), "apart g h a")
        self.assertEqual(desk.say("plan").split()[0], "plan")
        desk.say("line " + PAPPUS[0])
        desk.say("others g h i")
        self.assertEqual(desk.say("claim g h i 0 1"), "grounded 1")
        desk.say("line g h i")
        self.assertEqual(desk.say("ground g h i 0"), "none")
        self.assertEqual(desk.say("claim g h i 0 1"), "grounded 0")
        self.assertEqual(desk.say("plan"), "core a b c d e f g h i")

    def test_two_desks_beside_one_another(self):
        one, other = Desk(), Desk()
        one.say("line a b c")
        self.assertEqual(all_of(other), ["none", "none", "none", "plan"])
        other.say("apart a b c")
        self.assertEqual(one.say("lines"), "a b c")
        self.assertEqual(one.say("aparts"), "none")
        self.assertEqual(one.say("claim a b c 0 1"), "grounded 0")
        self.assertTrue(other.say("claim a b c 0 1").startswith("refuted"))


class NoTextTest(DeskTest):
    def test_no_text(self):
        things = copy.deepcopy(ANY_THINGS)
        for thing in ANY_THINGS + (["names"], ("names",), ["line", "a", "b", "c"], ("line a b c",), ["line a b c"]):
            self.refused(NoText, pair_desk(), thing)
            self.refused(NoText, Desk(), thing)
        self.assertEqual(ANY_THINGS, things)

    def test_unknown_words(self):
        self.refused(NoText, pair_desk(), "", " ", "  ", "x", "a", "a b c", "Line a b c", "LINE a b c", "lin a b c",
                     "line: a b c", "name", "Names", "names.", "core", "ok", "yes", "none", "open", "point a b c",
                     "other", "others.", "grounds a b c 0", "claims a b c 0 0", "plans", "stand none",
                     "meets p a b c d", "say names", "line,a,b,c", "linea b c", "apart-a b c", "grounded 1", "refuted",
                     "standsnone", "standing none", "Stands none")

    def test_words_too_few_or_too_many(self):
        self.refused(NoText, pair_desk(), "line", "line a", "line a b", "line a b c d", "apart", "apart a b",
                     "apart a b c d", "meet", "meet p", "meet p a b c", "meet p a b c d e", "meet p a b",
                     "others a", "others a b", "others a b c d", "others a b c a b d", "names a", "lines a b c",
                     "aparts a b c", "names names", "plan a", "plan plan", "ground", "ground a b c", "ground a b c 0 0",
                     "ground a b 0", "ground 0", "claim", "claim a b c", "claim a b c 0", "claim a b c 0 0 0",
                     "claim a b 0 0", "ground a c d", "claim a c d 3", "stands", "stands ", "ground a c d x 0")

    def test_blanks(self):
        rows = ("line a b e", "apart b c e", "meet p a b c d", "others", "others b c d", "names", "lines", "aparts",
                "ground a c d 0", "claim a c d 0 0", "plan", "stands none", "stands " + PAIR_GROUND)
        for row in rows:
            self.refused(NoText, pair_desk(), row + " ", " " + row, "  " + row, row + "  ")
            places = [place for place, sign in enumerate(row) if sign == " "]
            self.refused(NoText, pair_desk(), *[row[:place] + " " + row[place:] for place in places])
            pair_desk().say(row)

    def test_line_ends_and_tabs(self):
        for sign in "\n\t":
            for row in ("names", "plan", "others", "ground a c d 0", "claim a c d 0 0", "stands none"):
                self.refused(NoText, pair_desk(), row + sign, sign + row)
            self.refused(NoText, pair_desk(), sign, f"line{sign}a b e", f"line{sign} a b e", f"{sign}line a b e",
                         f"claim a c d{sign}0 0", f"ground a c d{sign}0", f"stands{sign}none")
            # Words are parted by blanks alone: a word with such a sign is a word, but no name.
            self.refused(NoName, pair_desk(), f"line a b e{sign}", f"line a b {sign}", f"apart {sign}a b e",
                         f"meet p a b c {sign}", f"others a b c{sign}", f"claim {sign} c d 0 0",
                         f"ground a{sign} c d 0")

    def test_rounds(self):
        for rounds in ("4", "-1", "10", "00", "01", "03", "-0", "+1", "+0", "1.0", "1/1", "a", "x", "-", "+", "one",
                       "3.", "0x1", "1_0", "--1", "3\n", "\t3", "1" * 60, "1" * 61, "0" * 60, "1" * 5000):
            self.refused(NoText, pair_desk(), f"ground a c d {rounds}", f"claim a c d {rounds} 0",
                         f"claim a c d {rounds} 30")
        for rounds in "0123":
            self.assertEqual(pair_desk().say(f"ground a c d {rounds}"), PAIR_GROUND)
            self.assertEqual(pair_desk().say(f"claim a c d {rounds} 0"), "grounded 1")

    def test_tries(self):
        for tries in ("31", "-1", "100", "00", "01", "030", "-0", "+1", "+30", "1.0", "1/1", "a", "x", "-", "+", "40",
                      "3.", "0x1", "3_0", "--1", "3\n", "\t3", "1" * 60, "1" * 61, "0" * 60, "1" * 5000):
            self.refused(NoText, pair_desk(), f"claim a c d 0 {tries}", f"claim a c d 3 {tries}")
        for tries in range(31):
            self.assertEqual(pair_desk().say(f"claim a c d 0 {tries}"), "grounded 1")

    def test_a_ground_that_is_not_so_written(self):
        for ground in ("", "x", "None", "none;", "none ", " none", "none; none", PAIR_GROUND + ";", PAIR_GROUND + "; ",
                       PAIR_GROUND + " ", " " + PAIR_GROUND, PAIR_GROUND.replace("*", " "), "a c d",
                       PAIR_GROUND.replace("-1", "0"), PAIR_GROUND.replace("-1", "-01"), "c a d: a c d x y =",
                       PAIR_GROUND.replace(" =", ""), "a c d: a c d x x =", "a c d: a d c x y =", "a c d: A c d x y =",
                       "a c d: a c d x y = 1*a.b.d.x.y -1*a.b.c.x.y", PAIR_GROUND.replace("1*", "1" * 61 + "*"),
                       "a c d: a c d x y = 1*a.b.d.x.y 1*a.b.d.x.y", "a b d: a c d x y ="):
            self.refused(NoText, pair_desk(), "stands " + ground)

    def test_no_text_comes_ahead_of_no_name(self):
        self.refused(NoText, pair_desk(), "ground A c d 4", "ground z c d -1", "ground a a a 00", "claim A c d 4 0",
                     "claim a c d 0 31", "claim Z c d 0 31", "claim a a d 0 -1", "claim 1 2 3 4 5", "line A B",
                     "line a a", "line A B C D", "meet P a b c", "meet p p p p", "others A", "others a a", "others A B",
                     "line A  b c", "line A b c ", " line A b c", "stands A B C: A B C D E =", "ground A A A",
                     "claim A A A 0", "claim z y x 1 x", "claim z y x x 1")

    def test_no_text_comes_ahead_of_no_row_and_too_many(self):
        self.refused(NoText, full_desk(), "line a b c ", "line  a b c", "line a b c d", "apart d e f ", "apart d e f g",
                     "line k l m ", "apart  k l m", "meet k a b c d ", "meet k a b c", "meet a b c d e f")


class NoNameTest(DeskTest):
    WORDS = ("A", "1", "aB", "a1", "abcdefghi", "-", "a.b", "a-b", "~", "a;", "a:", "0", "none.", "-1", "a\t", "*", "=")

    def test_no_names(self):
        for word in NoNameTest.WORDS:
            for desk in (pair_desk(), Desk()):
                self.refused(NoName, desk, f"line {word} b e", f"line b {word} e", f"line b e {word}",
                             f"apart {word} b e", f"apart b {word} e", f"apart b e {word}",
                             f"meet {word} a b c d", f"meet p {word} b c d", f"meet p a {word} c d",
                             f"meet p a b {word} d", f"meet p a b c {word}",
                             f"others {word} b c", f"others a {word} c", f"others a b {word}",
                             f"ground {word} c d 0", f"ground a {word} d 1", f"ground a c {word} 3",
                             f"claim {word} c d 0 0", f"claim a {word} d 0 30", f"claim a c {word} 3 30")

    def test_two_alike(self):
        self.refused(NoName, pair_desk(), "line a a b", "line a b a", "line b a a", "line a a a", "apart e e a",
                     "apart e a e", "apart a e e", "others a a b", "others a b a", "others b a a", "others z z z",
                     "ground a a c 0", "ground a c a 0", "ground c a a 3", "claim a a c 0 0", "claim a c a 0 30",
                     "claim c a a 3 30")

    def test_meets(self):
        self.refused(NoName, pair_desk(), "meet p p b c d", "meet p a p c d", "meet p a b p d", "meet p a b c p",
                     "meet p a a c d", "meet p a b c c", "meet p a b a b", "meet p a b b a", "meet p p p p p")
        self.assertEqual(pair_desk().say("meet p a b a d"), "ok")

    def test_a_name_that_the_book_has_not(self):
        for name in ("z", "e", "aa", "abcdefgh", "none"):
            self.refused(NoName, pair_desk(), f"ground {name} c d 0", f"ground a {name} d 3", f"ground a c {name} 1",
                         f"claim {name} c d 0 0", f"claim a {name} d 3 30", f"claim a c {name} 0 30")

    def test_no_name_comes_ahead_of_no_row(self):
        # p c d stands apart; the other pair is no pair.
        desk = desk_of("apart p c d", "line a b c")
        self.refused(NoRow, desk, "meet p a b c d", "meet p c d a b")
        self.refused(NoName, desk, "meet p p b c d", "meet p a a c d", "meet p A b c d", "meet p c d a a",
                     "meet p c d c d", "meet p c d d c", "meet p c d p a", "meet p c d a 1")

    def test_no_name_comes_ahead_of_too_many(self):
        self.refused(NoName, full_desk(), "line k k a", "line k l L", "apart k K a", "apart l k k", "meet k a a b c",
                     "meet k a b a b", "meet k k l m n", "meet K a b c d", "others k k l", "others k K l",
                     "ground k l m 0", "claim k l m 0 0")


class NoRowTest(DeskTest):
    def test_a_line_of_what_stands_apart(self):
        for told in itertools.permutations("abc"):
            self.refused(NoRow, desk_of("apart a b c"), "line " + " ".join(told))
        self.refused(NoRow, desk_of("line a b c", "line d e f", "others"), "line a b d", "line d c f")

    def test_apart_of_a_line(self):
        for told in itertools.permutations("abc"):
            self.refused(NoRow, desk_of("line a b c"), "apart " + " ".join(told))
        self.refused(NoRow, desk_of("meet p a b c d"), "apart a b p", "apart d c p")

    def test_a_meet_of_which_one_line_stands_apart(self):
        self.refused(NoRow, desk_of("apart p a b"), "meet p a b c d", "meet p c d b a", "meet a p b c d")
        self.assertEqual(desk_of("apart p a b").say("meet p a c b d"), "ok")

    def test_no_row_comes_ahead_of_too_many(self):
        self.refused(NoRow, full_desk(), "meet a b c k l", "meet a k l b c", "meet c a b d k")
        threes = [" ".join(row) for row in itertools.combinations("abcdefg", 3)]
        desk = desk_of(*lines(threes[:20]), "apart a b x")
        self.refused(NoRow, desk, "line a b x", "meet x a b c d", "meet x c d a b", "apart a b c")
        self.refused(TooMany, desk, "line a c x", "meet x a c b d")


class TooManyTest(DeskTest):
    def test_an_eleventh_name(self):
        self.refused(TooMany, full_desk(), "line a b k", "apart a b k", "line k l m", "apart k l m", "meet k a b c d",
                     "meet a k l b d", "meet a b d k l")
        self.assertEqual(full_desk().say("line a b d"), "ok")
        self.assertEqual(full_desk().say("others k l m"), "ok")

    def test_a_twenty_first_line(self):
        threes = [" ".join(row) for row in itertools.combinations("abcdefg", 3)]
        desk = desk_of(*lines(threes[:19]))
        self.refused(TooMany, desk, "meet g h i c e", "meet h a b c d")
        self.assertEqual(desk.say("meet a b c d g"), "ok")
        self.assertEqual(desk.say("line " + threes[19]), "ok")
        self.refused(TooMany, desk, "line a b h", "meet a b c h i")
        self.assertEqual(desk.say("apart a b h"), "ok")


class WalkTest(unittest.TestCase):
    """Many rows one behind the other, held against a second telling of the document's words."""

    FORMS = (
        ("line", 3, ()), ("apart", 3, ()), ("meet", 5, ()), ("others", 0, ()), ("others", 3, ()), ("names", 0, ()),
        ("lines", 0, ()), ("aparts", 0, ()), ("ground", 3, (3,)), ("claim", 3, (3, 30)), ("plan", 0, ()),
    )

    def expected(self, book, row):
        """The answer by the document's words; a book of the test's own takes what is said."""
        words = row.split(" ")
        if words[0] == "stands" and len(words) > 1:
            try:
                ground = read_ground(row[7:])
            except NoText:
                return NoText
            return "yes" if stands(book, ground) else "no"
        forms = [form for form in WalkTest.FORMS if form[0] == words[0] and len(words) == 1 + form[1] + len(form[2])]
        if not forms or "" in words:
            return NoText
        kind, many, bounds = forms[0]
        names, asked = words[1:1 + many], words[1 + many:]
        for word, most in zip(asked, bounds):
            if not re.fullmatch("0|[1-9][0-9]*", word) or int(word) > most:
                return NoText
        return self.answer(book, kind, names, [int(word) for word in asked])

    def answer(self, book, kind, names, asked):
        try:
            if kind in ("line", "apart", "meet"):
                {"line": book.say_line, "apart": book.say_apart, "meet": book.say_meet}[kind](*names)
                return "ok"
            if kind == "others":
                if not all(re.fullmatch("[a-z]{1,8}", name) for name in names) or len(set(names)) < len(names):
                    return NoName
                book.say_others([tuple(sorted(names))] if names else [])
                return "ok"
            if kind in ("ground", "claim"):
                found = in_rounds(book, *names, asked[0])
        except SaidError as error:
            return type(error)
        if kind == "ground":
            return show_ground(found[1]) if found[0] == "ground" else f"open {len(found[1])}"
        if kind == "claim":
            return self.settled(book, tuple(sorted(names)), found, asked[1])
        if kind == "plan":
            told = expected_plan(book)
            return " ".join([told[0], *[one if told[0] == "core" else one[0] for one in told[1]]])
        if kind == "names":
            return " ".join(book.names()) or "none"
        return "; ".join(" ".join(row) for row in (book.lines() if kind == "lines" else book.aparts())) or "none"

    def settled(self, book, claim, found, tries):
        if found[0] == "ground":
            return f"grounded {len(found[1])}"
        number, points = expected_refutation(book, claim, tries)
        if number is None:
            return "open"
        written = [f"{name} {fraction(points[name][0])} {fraction(points[name][1])}" for name in sorted(points)]
        return "refuted " + "; ".join(written)

    def row(self, numbers, names):
        words = [numbers.picked(names) for place in range(5)]
        kind, many, bounds = numbers.picked(WalkTest.FORMS[:2] * 2 + WalkTest.FORMS)
        if many and numbers.below(8):
            words = numbers.mixed(names[:-2])
        row = [kind, *words[:many], *[str(numbers.below(most + 1)) for most in bounds]]
        if numbers.below(9) == 0:
            row.insert(numbers.below(len(row) + 1), numbers.picked(["", "a", "0", "A", "4", "none"]))
        if numbers.below(12) == 0:
            row.pop(numbers.below(len(row)))
        return " ".join(row)

    def test_many_rows(self):
        numbers = Numbers(111)
        seen = {}
        for walk in range(40):
            desk, book = Desk(), Book()
            names = list("abcdef" if walk % 2 else "abcdefgh") + ["aa", "A"]
            for number in range(40):
                row = self.row(numbers, names)
                if number % 13 == 12:
                    row = "stands " + numbers.picked(["none", PAIR_GROUND, "a b c: a b c d e =", "x", "", "a b c:"])
                expected = self.expected(book, row)
                try:
                    found = desk.say(row)
                except SaidError as error:
                    found = type(error)
                self.assertEqual(found, expected, row)
                kind = (row.split(" ")[0], found.split(" ")[0] if isinstance(found, str) else found)
                seen[kind] = seen.get(kind, 0) + 1
            self.assertEqual(all_of(desk), [self.expected(book, row) for row in ASKED])
        for kind in (("line", "ok"), ("line", NoName), ("line", NoRow), ("apart", NoRow), ("meet", NoName),
                     ("others", "ok"), ("others", NoName), ("ground", "none"), ("ground", "open"), ("ground", NoName),
                     ("claim", "refuted"), ("claim", "grounded"), ("claim", NoName), ("plan", "plan"),
                     ("stands", "yes"), ("stands", "no"), ("stands", NoText)):
            self.assertGreater(seen.get(kind, 0), 2, (kind, seen))


if __name__ == "__main__":
    unittest.main()

import copy
import itertools
import re
import sys
import unittest

from helper import (
    ANY_THINGS, DESARGUES, PAPPUS, Numbers, book_of, chain_book, in_order, is_whole, plain_exchanges,
)
from linesaid.errors import NoText
from linesaid.finding import in_rounds
from linesaid.grounds import stands
from linesaid.shares import times
from linesaid.texts import read_ground, show_ground, show_share

DOCUMENT = "a b c: a b c d e = 1*a.b.d.e.f -2*b.a.c.e.g"
DOCUMENT_STEP = (
    ("a", "b", "c"), ("a", "b", "c", "d", "e"), [(1, ("a", "b", "d", "e", "f")), (-2, ("b", "a", "c", "e", "g"))],
)
SIXTY = "1234567890" * 6

NAME = "[a-z]{1,8}"
WHOLE = "(?:0|-?[1-9][0-9]{0,59})"
FIVE_BY_DOTS = r"\.".join([NAME] * 5)
STEP = re.compile(f"({NAME} {NAME} {NAME}): ({' '.join([NAME] * 5)}) =((?: {WHOLE}\\*{FIVE_BY_DOTS})*)")


def expected_reading(text):
    """The ground of a text by the document's words, or None where it is none."""
    if text == "none":
        return []
    ground = []
    for piece in text.split("; "):
        found = STEP.fullmatch(piece)
        if found is None or "\n" in piece:
            return None
        claim, target = [tuple(found[number].split(" ")) for number in (1, 2)]
        parts = []
        for part in found[3].split(" ")[1:]:
            often, exchange = part.split("*")
            parts.append((int(often), tuple(exchange.split("."))))
        fives = [exchange for often, exchange in parts]
        if claim != tuple(sorted(set(target[:3]))) or not all(is_plain(one) for one in [target, *fives]):
            return None
        if fives != sorted(set(fives)) or any(often == 0 for often, exchange in parts):
            return None
        ground.append((claim, target, parts))
    return ground


def is_plain(five):
    return len(set(five)) == 5 and five[1] < five[2] and five[3] < five[4]


def all_kinds(told):
    """Whether a ground is built of the kinds that the document tells."""
    for step in told:
        if type(step) is not tuple or len(step) != 3 or type(step[2]) is not list:
            return False
        if type(step[0]) is not tuple or type(step[1]) is not tuple:
            return False
        for part in step[2]:
            if type(part) is not tuple or not is_whole(part[0]) or type(part[1]) is not tuple:
                return False
    return type(told) is list


class ShowShareTest(unittest.TestCase):
    def test_bottom_1(self):
        for top, expected in ((0, "0"), (1, "1"), (-1, "-1"), (10, "10"), (-203, "-203"), (900, "900")):
            self.assertEqual(show_share((top, 1)), expected)

    def test_other_bottoms(self):
        for one, expected in (((1, 2), "1/2"), ((-1, 2), "-1/2"), ((7, 10), "7/10"), ((-11, 3), "-11/3"),
                              ((100, 101), "100/101"), ((1, 1000), "1/1000")):
            self.assertEqual(show_share(one), expected)

    def test_sixty_figures(self):
        great = int(SIXTY)
        self.assertEqual(show_share((great, 1)), SIXTY)
        self.assertEqual(show_share((-great, 1)), "-" + SIXTY)
        self.assertEqual(show_share((-great, 7)), "-" + SIXTY + "/7")
        self.assertEqual(show_share((10 ** 59, 3)), "1" + "0" * 59 + "/3")
        self.assertEqual(show_share((1, 10 ** 59)), "1/1" + "0" * 59)

    def test_longer_numbers_that_were_told(self):
        one = (10 ** 59 + 1, 10 ** 59)
        for number in range(9):
            one = times(one, one)
            told = show_share(one)
            self.assertRegex(told, r"\A[1-9][0-9]*/10*\Z")
            self.assertEqual(told, self.written(one[0]) + "/" + self.written(one[1]))
            self.assertEqual(show_share((-one[0], 1)), "-" + self.written(one[0]))
        self.assertGreater(len(told), 50000)

    def test_noughts_within_long_numbers(self):
        for many in (58, 59, 60, 61, 119, 120, 121, 180, 5000):
            for added in (0, 1, 10 ** 30):
                number = 10 ** many + added
                self.assertEqual(show_share((number, 1)), self.written(number))
                self.assertEqual(show_share((number - 1, 1)), self.written(number - 1))
                self.assertEqual(show_share((-number, 1)), "-" + self.written(number))

    def written(self, number):
        most = sys.get_int_max_str_digits()
        sys.set_int_max_str_digits(0)
        try:
            return str(number)
        finally:
            sys.set_int_max_str_digits(most)

    def test_nothing_hangs_on_pythons_bound_for_figures(self):
        most = sys.get_int_max_str_digits()
        sys.set_int_max_str_digits(640)
        try:
            self.assertEqual(show_share((10 ** 5000, 1)), "1" + "0" * 5000)
            with self.assertRaises(NoText):
                read_ground("a b c: a b c d e = " + "1" * 5000 + "*a.b.d.e.f")
        finally:
            sys.set_int_max_str_digits(most)


class ShowGroundTest(unittest.TestCase):
    def check(self, ground, text):
        before = copy.deepcopy(ground)
        self.assertEqual(show_ground(ground), text)
        self.assertEqual(ground, before)
        found = read_ground(text)
        self.assertEqual(found, ground)
        self.assertTrue(all_kinds(found))
        self.assertEqual(show_ground(found), text)

    def test_without_steps(self):
        self.check([], "none")

    def test_the_documents_own(self):
        self.check([DOCUMENT_STEP], DOCUMENT)

    def test_a_step_without_parts(self):
        self.check([(("a", "b", "c"), ("b", "a", "c", "d", "e"), [])], "a b c: b a c d e =")
        self.check([(("a", "b", "c"), ("b", "a", "c", "d", "e"), []), DOCUMENT_STEP], "a b c: b a c d e =; " + DOCUMENT)
        self.check([DOCUMENT_STEP, (("a", "b", "c"), ("b", "a", "c", "d", "e"), [])], DOCUMENT + "; a b c: b a c d e =")

    def test_one_part(self):
        self.check([(("a", "b", "c"), ("c", "a", "b", "d", "e"), [(7, ("e", "a", "d", "b", "c"))])],
                   "a b c: c a b d e = 7*e.a.d.b.c")

    def test_more_steps(self):
        self.check([DOCUMENT_STEP] * 2, DOCUMENT + "; " + DOCUMENT)
        self.check([DOCUMENT_STEP] * 5, "; ".join([DOCUMENT] * 5))

    def test_times(self):
        long = (-10 ** 30, int(SIXTY), -int(SIXTY), 10 ** 60 - 1, 1 - 10 ** 60)
        for often in (1, -1, 2, 10, -10, 100, 987654321) + long:
            ground = [(("a", "b", "c"), ("a", "b", "c", "d", "e"), [(often, ("a", "b", "c", "d", "e"))])]
            self.check(ground, f"a b c: a b c d e = {often}*a.b.c.d.e")

    def test_longer_times_are_written_but_not_read(self):
        for often in (10 ** 60, -10 ** 60, 10 ** 61 + 7):
            ground = [(("a", "b", "c"), ("a", "b", "c", "d", "e"), [(often, ("a", "b", "c", "d", "e"))])]
            text = f"a b c: a b c d e = {often}*a.b.c.d.e"
            self.assertEqual(show_ground(ground), text)
            with self.assertRaises(NoText):
                read_ground(text)

    def test_names_of_several_letters(self):
        step = (("a", "ab", "abcdefgh"), ("ab", "a", "abcdefgh", "none", "zzzzzzzz"),
                [(-3, ("a", "ab", "abc", "b", "ba")), (4, ("a", "abc", "b", "ab", "ba"))])
        self.check([step], "a ab abcdefgh: ab a abcdefgh none zzzzzzzz = -3*a.ab.abc.b.ba 4*a.abc.b.ab.ba")

    def test_parts_in_order(self):
        step = (("a", "b", "c"), ("a", "b", "c", "d", "e"), [
            (1, ("a", "b", "c", "d", "e")), (1, ("a", "b", "c", "d", "f")), (1, ("aa", "b", "c", "d", "e")),
            (1, ("b", "a", "c", "d", "e"))])
        self.check([step], "a b c: a b c d e = 1*a.b.c.d.e 1*a.b.c.d.f 1*aa.b.c.d.e 1*b.a.c.d.e")

    def test_found_grounds(self):
        books = [(book_of(PAPPUS, others=["g h i"]), "ghi"), (book_of(DESARGUES, others=["p q r"]), "pqr")]
        books.extend((chain_book(), claim) for claim in ("acd", "ace", "abf", "efg", "abc"))
        for book, claim in books:
            ground = in_rounds(book, *claim, 3)[1]
            text = show_ground(ground)
            self.check(ground, text)
            self.assertEqual(expected_reading(text), ground)
            self.assertTrue(stands(book, read_ground(text)))

    def test_mixed_grounds(self):
        numbers = Numbers(101)
        words = ["a", "aa", "ab", "b", "none", "q", "zz", "abcdefgh"]
        fives = plain_exchanges(words)
        for number in range(100):
            ground = []
            for place in range(1 + numbers.below(4)):
                target = numbers.picked(fives)
                parts = sorted(numbers.picked(fives) for part in range(numbers.below(6)))
                parts = [one for one, more in itertools.groupby(parts)]
                told = [(self.times(numbers), one) for one in parts]
                ground.append((in_order(*target[:3]), target, told))
            text = show_ground(ground)
            self.check(ground, text)
            self.assertEqual(expected_reading(text), ground)

    def times(self, numbers):
        found = numbers.signed(10 ** numbers.picked([1, 2, 60]) - 1)
        return found if found != 0 else 1


class ReadGroundTest(unittest.TestCase):
    def refused(self, *texts):
        for text in texts:
            with self.subTest(text=text):
                self.assertIsNone(expected_reading(text))
                with self.assertRaises(NoText):
                    read_ground(text)

    def test_no_text(self):
        things = copy.deepcopy(ANY_THINGS)
        for thing in ANY_THINGS + ([DOCUMENT], (DOCUMENT,), ["none"], [DOCUMENT_STEP], DOCUMENT_STEP, ("none",)):
            with self.assertRaises(NoText):
                read_ground(thing)
        self.assertEqual(ANY_THINGS, things)

    def test_texts_that_are_none(self):
        self.refused("", " ", "; ", ";", ":", "=", ": =", ":  =", " : =", "*", ".", "\n", "a", "a b c", "a b c:",
                     "a b c: ", "a b c: a b c d e", "a b c: a b c d e ", "= 1*a.b.c.d.e", "yes", "ok", "open 3")

    def test_none_with_something_beside_it(self):
        self.refused("none ", " none", "none;", "none; ", "; none", "none; none", "none; " + DOCUMENT,
                     DOCUMENT + "; none", "None", "NONE", "non", "nonee", "none\n", "none:", "none =", "none none")

    def test_blanks(self):
        places = [place for place, sign in enumerate(DOCUMENT) if sign == " "]
        for place in places:
            self.refused(DOCUMENT[:place] + DOCUMENT[place + 1:], DOCUMENT[:place] + " " + DOCUMENT[place:])
            self.refused(DOCUMENT[:place] + "\t" + DOCUMENT[place + 1:], DOCUMENT[:place] + "\n" + DOCUMENT[place + 1:])
        self.refused(" " + DOCUMENT, DOCUMENT + " ", DOCUMENT + "\n", "\n" + DOCUMENT, "\t" + DOCUMENT, DOCUMENT + "\t")
        self.refused("a b c: a b c d e = ", "a b c: a b c d e =  ", "a b c: a b c d e=", "a b c:a b c d e =",
                     "a b c : a b c d e =", "a b c: a b c d e =1*a.b.c.d.e", "a b c: a b c d e = 1* a.b.c.d.e",
                     "a b c: a b c d e = 1 *a.b.c.d.e", "a b c: a b c d e = 1*a .b.c.d.e", "a b c:  a b c d e =")

    def test_between_steps(self):
        self.refused(DOCUMENT + ";" + DOCUMENT, DOCUMENT + ";  " + DOCUMENT, DOCUMENT + " ; " + DOCUMENT,
                     DOCUMENT + "; ; " + DOCUMENT, DOCUMENT + ", " + DOCUMENT, DOCUMENT + " " + DOCUMENT,
                     DOCUMENT + "; ", "; " + DOCUMENT, DOCUMENT + ";", ";" + DOCUMENT, DOCUMENT + DOCUMENT,
                     DOCUMENT + ";\n" + DOCUMENT, DOCUMENT + ": " + DOCUMENT)

    def test_a_missing_sign(self):
        for sign in ":=*.":
            for place in [spot for spot, found in enumerate(DOCUMENT) if found == sign]:
                self.refused(DOCUMENT[:place] + DOCUMENT[place + 1:], DOCUMENT[:place] + " " + DOCUMENT[place + 1:],
                             DOCUMENT[:place] + sign + DOCUMENT[place:], DOCUMENT[:place] + "," + DOCUMENT[place + 1:])
        self.refused(DOCUMENT.replace(" =", ""), DOCUMENT.replace(" = ", " "), DOCUMENT.replace("= ", ""),
                     DOCUMENT.replace(": ", " "), DOCUMENT.replace(".", " "), DOCUMENT.replace("*", "."))

    def test_names_more_or_less(self):
        self.refused("a b: a b c d e =", "a b c d: a b c d e =", ": a b c d e =", "a b c: a b c d =",
                     "a b c: a b c d e f =", "a b c: =", "a b c:  =", "b c: a b c d e =", "a: a b c d e =",
                     "a b c: a b c d e = 1*a.b.c.d", "a b c: a b c d e = 1*a.b.c.d.e.f", "a b c: a b c d e = 1*",
                     "a b c: a b c d e = 1*a", "a b c: a b c d e = 1*a.b.c.d.", "a b c: a b c d e = 1*.b.c.d.e",
                     "a b c: a b c d e = 1*a..c.d.e", "a b c: a b c = 1*a.b.c.d.e")

    def test_names_twice(self):
        self.refused("a a c: a b c d e =", "a b b: a b c d e =", "a b c: a b c d d =", "a b c: a b c a e =",
                     "a b c: a b b d e =", "a a c: a a c d e =", "a b c: a b c b e =",
                     "a b c: a b c d e = 1*a.b.c.d.d", "a b c: a b c d e = 1*a.a.c.d.e",
                     "a b c: a b c d e = 1*a.b.b.d.e", "a b c: a b c d e = 1*a.b.c.a.e",
                     "a b c: a b c d e = 1*a.b.c.d.c", "a b c: a b c d e = 1*a.b.c.c.d")

    def test_no_names(self):
        for word in ("A", "1", "abcdefghi", "a1", "aB", "-", "_", "a-b", "a_b", "~", "!", "\n", "\t"):
            for written in (f"a b {word}: a b c d e =", f"{word} b c: a b c d e =", f"a b {word}: a b {word} d e =",
                            f"a b c: a b c d {word} =", f"a b c: a b c {word} e =", f"b c {word}: {word} b c d e =",
                            f"a b c: a b c d e = 1*{word}.b.c.d.e", f"a b c: a b c d e = 1*a.b.c.d.{word}",
                            f"a b c: a b c d e = 1*a.{word}.c.d.e", f"a b c: a b c d e = 1*a.b.c.d.{word} 1*b.a.c.d.e"):
                self.refused(written)

    def test_a_claim_out_of_order(self):
        for told in itertools.permutations("abc"):
            if told != ("a", "b", "c"):
                self.refused(f"{' '.join(told)}: a b c d e = 1*a.b.c.d.e", f"{' '.join(told)}: a b c d e =")

    def test_a_claim_of_another_triple(self):
        self.refused("a b d: a b c d e =", "a b x: a b c d e =", "c d e: a b c d e =", "b c d: a b c d e =",
                     "a d e: a b c d e =", "x y z: a b c d e =", DOCUMENT + "; a b d: a b c d e =")

    def test_a_target_that_is_not_plain(self):
        self.refused("a b c: a c b d e =", "a b c: a b c e d =", "a b c: a c b e d =", "a b c: b c a d e =",
                     "a b c: c b a d e =", "a b c: c a b e d =")
        self.assertEqual(read_ground("a b c: c a b d e ="), [(tuple("abc"), tuple("cabde"), [])])

    def test_a_part_that_is_not_plain(self):
        for five in ("a.c.b.d.e", "a.b.c.e.d", "a.c.b.e.d", "b.c.a.d.e", "c.b.a.d.e"):
            self.refused(f"a b c: a b c d e = 1*{five}", f"a b c: a b c d e = -2*{five} 1*z.a.b.d.e",
                         f"a b c: a b c d e = -2*{five}")

    def test_parts_out_of_order(self):
        self.refused("a b c: a b c d e = -2*b.a.c.e.g 1*a.b.d.e.f", "a b c: a b c d e = 1*a.b.c.d.f 1*a.b.c.d.e",
                     "a b c: a b c d e = 1*a.b.c.d.e 1*c.a.b.d.e 1*b.a.c.d.e",
                     "a b c: a b c d e = 1*aa.b.c.d.e 1*a.b.c.d.e",
                     DOCUMENT + "; a b c: a b c d e = 1*b.a.c.d.e 1*a.b.c.d.e")

    def test_parts_twice(self):
        self.refused("a b c: a b c d e = 1*a.b.c.d.e 1*a.b.c.d.e", "a b c: a b c d e = 1*a.b.c.d.e -1*a.b.c.d.e",
                     "a b c: a b c d e = 1*a.b.c.d.e 2*a.b.c.d.e 1*b.a.c.d.e")

    def test_times(self):
        for often in ("0", "-0", "+1", "01", "-01", "00", "001", "-", "", "--1", "+", "+-1", "1-", "-+1", "1.0", "1/1",
                      "1e3", "0x1", "1_000", "a", "one", "-1-", "1\n", "\n1", "\t1", "- 1", "1" + SIXTY, "-1" + SIXTY,
                      "0" + SIXTY, "-0" + SIXTY, SIXTY * 20):
            self.refused(f"a b c: a b c d e = {often}*a.b.c.d.e", f"a b c: a b c d e = {often}*a.b.c.d.e 1*b.a.c.d.e",
                         f"a b c: a b c d e = 1*a.b.c.d.e {often}*b.a.c.d.e")
        self.refused("a b c: a b c d e = a.b.c.d.e", "a b c: a b c d e = 1a.b.c.d.e", "a b c: a b c d e = 1.a.b.c.d.e",
                     "a b c: a b c d e = *a.b.c.d.e", "a b c: a b c d e = 1**a.b.c.d.e",
                     "a b c: a b c d e = 1*2*a.b.c.d.e")

    def test_what_is_spoiled_behind_a_step_that_is_well_written(self):
        self.refused(DOCUMENT + "; x", DOCUMENT + "; " + DOCUMENT + " ", DOCUMENT + "; " + DOCUMENT + "X",
                     "x; " + DOCUMENT, DOCUMENT + "; a b c")

    def test_each_change_of_one_sign(self):
        signs = " :;=*.-+0129abcdeghxzA,\n"
        seen = {True: 0, False: 0}
        for text in (DOCUMENT, "a b c: a b c d e =", "none", "a ab b: ab a b x y = 10*a.b.c.d.e; b c d: c b d x z ="):
            for place in range(len(text) + 1):
                changed = [text[:place] + sign + text[place:] for sign in signs]
                changed += [text[:place] + sign + text[place + 1:] for sign in signs]
                changed += [text[:place] + text[place + 1:]]
                changed += [text[:place] + text[place:place + 2][::-1] + text[place + 2:]]
                for one in changed:
                    seen[self.check_by_words(one)] += 1
        self.assertGreater(min(seen.values()), 300, seen)

    def test_mixed_changes(self):
        numbers = Numbers(102)
        pieces = [" ", ":", ";", "=", "*", ".", "-", "; ", ": ", " =", " 1*", "none", "a", "b", "c", "d", "e", "0", "1",
                  DOCUMENT, "1*a.b.c.d.e", "-2*b.a.c.e.g", "a b c", "a b c d e"]
        for number in range(3000):
            text = numbers.picked([DOCUMENT, "none", DOCUMENT + "; " + DOCUMENT, "a b c: b a c d e ="])
            for change in range(1 + numbers.below(3)):
                start = numbers.below(len(text) + 1)
                end = min(len(text), start + numbers.picked([0, 1, 1, 2, 5, 12]))
                text = text[:start] + numbers.picked(pieces + [""]) + text[end:]
            self.check_by_words(text)

    def check_by_words(self, text):
        expected = expected_reading(text)
        if expected is None:
            with self.assertRaises(NoText, msg=text):
                read_ground(text)
        else:
            self.assertEqual(read_ground(text), expected, text)
            self.assertEqual(show_ground(expected), text)
        return expected is not None


class OwnTest(unittest.TestCase):
    def test_what_is_read_is_the_askers_own(self):
        for text in (DOCUMENT, DOCUMENT + "; " + DOCUMENT, "none", "a b c: a b c d e ="):
            told = read_ground(text)
            kept = copy.deepcopy(told)
            for claim, target, parts in told:
                parts.append("z")
            told.append("z")
            self.assertEqual(read_ground(text), kept)

    def test_no_list_stands_at_two_places(self):
        told = read_ground("; ".join([DOCUMENT, DOCUMENT, "a b c: a b c d e =", "a b c: a b c d e ="]))
        inner = [id(parts) for claim, target, parts in told]
        self.assertEqual(len(set(inner)), 4)

    def test_a_ground_that_is_changed_is_written_as_it_is_then(self):
        ground = [copy.deepcopy(DOCUMENT_STEP)]
        self.assertEqual(show_ground(ground), DOCUMENT)
        ground[0][2].pop()
        self.assertEqual(show_ground(ground), "a b c: a b c d e = 1*a.b.d.e.f")
        ground.clear()
        self.assertEqual(show_ground(ground), "none")


if __name__ == "__main__":
    unittest.main()

import copy
import itertools
import unittest

from helper import (
    DESARGUES, FANO, PAPPUS, Numbers, book_of, chain_book, expected_needs, expected_vector, in_order, plain_exchanges,
    rows_of,
)
from linesaid.book import Book
from linesaid.finding import in_one_step, in_rounds
from linesaid.grounds import joined, renamed, shortened, stands


def step(claim, target, *parts):
    """A step by texts: a claim as "a b c", a target as "a b c d e", parts as "-2 a b d e f"."""
    told = []
    for part in parts:
        words = part.split()
        told.append((int(words[0]), tuple(words[1:])))
    return (tuple(claim.split()), tuple(target.split()), told)


# a, b, c and a, b, d lie on one line, so a, c, d do; x and y stand apart from it.
PAIR_LINES = ("a b c", "a b d")
PAIR_APARTS = ("a b x", "a b y", "a c x", "a c y", "a d x", "a d y", "a x y")
FIRST = step("a c d", "a c d x y", "-1 a b c x y", "1 a b d x y")

# By FIRST's claim, and with the line c d e more, a, c, e lie on one line.
SECOND = step("a c e", "c a e x y", "1 c a d x y", "1 c d e x y")
CHAIN_LINES = PAIR_LINES + ("c d e",)
CHAIN_APARTS = PAIR_APARTS + ("c d x", "c d y", "c e x", "c e y", "c x y")

# The steps of the CHAIN: each rests on the claim ahead of it.
THIRD = step("c e f", "e c f x y", "-1 e a c x y", "1 e a f x y")

# The seventh line of FANO is reached but for a sign.
SEVENTH = step(
    "c e f", "c e f a d", "1 a b c d e", "-1 a b c d f", "-1 a f g b d", "1 b e g a d", "-1 d a e b c", "1 d b f a c",
    "-1 d c g a b",
)


def total_of(parts):
    total = {}
    for often, exchange in parts:
        for key, number in expected_vector(exchange).items():
            total[key] = total.get(key, 0) + often * number
    return total


def differences(told):
    """At which keys, and by how much, the parts of a step don't come to its target."""
    total, wanted = total_of(told[2]), expected_vector(told[1])
    found = {key: total.get(key, 0) - wanted.get(key, 0) for key in [*total, *wanted]}
    return {key: number for key, number in found.items() if number != 0}


def expected_stands(book, ground):
    lines, aparts = set(book.lines()), set(book.aparts())
    for claim, target, parts in ground:
        if not {*expected_needs(target), in_order(target[0], *target[3:])} <= aparts:
            return False
        for often, exchange in parts:
            if in_order(*exchange[:3]) not in lines or not set(expected_needs(exchange)) <= aparts:
                return False
        if any(key != () or number % 2 == 1 for key, number in differences((claim, target, parts)).items()):
            return False
        lines.add(claim)
    return True


def used_rows(ground):
    """The rows on which a ground rests: lines and aparts."""
    lines, aparts, claims = set(), set(), set()
    for claim, target, parts in ground:
        aparts.update(expected_needs(target), [in_order(target[0], *target[3:])])
        for often, exchange in parts:
            aparts.update(expected_needs(exchange))
            if in_order(*exchange[:3]) not in claims:
                lines.add(in_order(*exchange[:3]))
        claims.add(claim)
    return sorted(lines), sorted(aparts)


def texts(rows):
    return [" ".join(row) for row in rows]


def without(rows, gone):
    return [row for row in rows if row != gone]


def is_built(thing):
    """Whether it is a ground built as the document tells."""
    for claim, target, parts in thing:
        fives = [exchange for often, exchange in parts]
        if claim != in_order(*target[:3]) or fives != sorted(set(fives)):
            return False
        for a, b, c, d, e in [target] + fives:
            if not (b < c and d < e and len({a, b, c, d, e}) == 5):
                return False
        if type(parts) is not list or any(type(often) is not int or often == 0 for often, exchange in parts):
            return False
    return type(thing) is list


class StandsTest(unittest.TestCase):
    def check(self, book, ground, expected):
        before = copy.deepcopy((rows_of(book), ground))
        told = stands(book, ground)
        self.assertIs(type(told), bool)
        self.assertEqual(told, expected)
        self.assertEqual(expected_stands(book, ground), expected)
        self.assertEqual((rows_of(book), ground), before)

    def test_without_steps(self):
        for book in (Book(), book_of(PAPPUS), book_of(["a b c"], ["a b d"])):
            self.check(book, [], True)

    def test_one_step(self):
        self.check(book_of(PAIR_LINES, PAIR_APARTS), [FIRST], True)

    def test_a_need_that_is_not_apart(self):
        # The needs of the target are needs of the parts here, but for a b x and a b y, which are needs of parts alone.
        for gone in PAIR_APARTS[:6]:
            self.check(book_of(PAIR_LINES, without(PAIR_APARTS, gone)), [FIRST], False)

    def test_a_need_that_is_a_line(self):
        for gone in PAIR_APARTS:
            self.check(book_of(PAIR_LINES + (gone,), without(PAIR_APARTS, gone)), [FIRST], False)

    def test_the_triple_of_a_d_e_of_the_target_is_not_apart(self):
        self.check(book_of(PAIR_LINES, without(PAIR_APARTS, "a x y")), [FIRST], False)
        # The target of SECOND has c as its a: a x y is not asked for there.
        for gone, expected in (("a x y", True), ("c x y", False)):
            self.check(book_of(CHAIN_LINES + ("a c d",), without(CHAIN_APARTS, gone)), [SECOND], expected)

    def test_a_part_that_rests_on_no_line(self):
        for gone in PAIR_LINES:
            self.check(book_of(without(PAIR_LINES, gone), PAIR_APARTS), [FIRST], False)
            self.check(book_of(without(PAIR_LINES, gone), PAIR_APARTS + (gone,)), [FIRST], False)
        self.check(book_of([], PAIR_APARTS), [FIRST], False)

    def test_a_part_that_rests_on_the_claim_of_a_step_ahead(self):
        self.check(book_of(CHAIN_LINES, CHAIN_APARTS), [FIRST, SECOND], True)
        self.check(chain_book(), [FIRST, SECOND, THIRD], True)
        self.check(chain_book(), [FIRST, FIRST, SECOND, FIRST, SECOND, THIRD, THIRD], True)

    def test_a_part_that_rests_on_the_claim_of_a_later_step(self):
        book = book_of(CHAIN_LINES, CHAIN_APARTS)
        self.check(book, [SECOND, FIRST], False)
        self.check(book, [SECOND], False)
        self.check(book, [FIRST, SECOND], True)
        self.check(chain_book(), [FIRST, THIRD, SECOND], False)

    def test_a_part_that_rests_on_its_own_claim(self):
        own = step("a c d", "a c d x y", "1 a c d x y")
        self.check(book_of(PAIR_LINES, PAIR_APARTS), [own], False)
        self.check(book_of(PAIR_LINES, PAIR_APARTS), [FIRST, own], True)
        self.check(book_of(PAIR_LINES + ("a c d",), PAIR_APARTS), [own], True)

    def test_a_later_step_that_does_not_stand(self):
        book = book_of(CHAIN_LINES, CHAIN_APARTS)
        wrong = step("a c e", "c a e x y", "1 c a d x y", "-1 c d e x y")
        self.check(book, [FIRST, wrong], False)
        self.check(book, [FIRST, wrong, SECOND], False)
        self.check(book, [FIRST, SECOND, wrong], False)

    def test_parts_that_do_not_come_to_the_target(self):
        book = book_of(PAIR_LINES, PAIR_APARTS)
        claim, target = "a c d", "a c d x y"
        for times in ((1, 1), (1, -1), (-2, 2), (-1, 2), (-2, 1), (-3, 1), (-10 ** 59, 10 ** 59)):
            told = step(claim, target, f"{times[0]} a b c x y", f"{times[1]} a b d x y")
            self.check(book, [told], False)
        self.check(book, [step(claim, target, "-1 a b c x y")], False)
        self.check(book, [step(claim, target, "1 a b d x y")], False)

    def test_a_part_too_many(self):
        book = book_of(CHAIN_LINES, CHAIN_APARTS)
        more = step("a c d", "a c d x y", "-1 a b c x y", "1 a b d x y", "1 c d e x y")
        self.check(book, [more], False)
        self.assertEqual(len(differences(more)), 4)

    def test_parts_that_come_to_it_by_large_times(self):
        # Around the line of a, b, c: the three exchanges of FIRST's kind come to nothing together.
        book = book_of(PAIR_LINES + ("a c d",), PAIR_APARTS)
        large = 10 ** 59
        told = step("a c d", "a c d x y", f"{large} a b c x y", f"{-large} a b d x y", f"{large + 1} a c d x y")
        self.check(book, [told], True)
        told = step("a c d", "a c d x y", f"{large} a b c x y", f"{-large} a b d x y", f"{large} a c d x y")
        self.check(book, [told], False)

    def test_a_step_without_parts(self):
        self.check(book_of(PAIR_LINES, PAIR_APARTS), [step("a c d", "a c d x y")], False)
        self.check(book_of(PAIR_LINES + ("a c d",), PAIR_APARTS), [step("a c d", "a c d x y")], False)
        self.check(Book(), [step("a c d", "a c d x y")], False)

    def test_but_for_the_empty_tuple_by_an_even_number(self):
        told = step("a d f", "a d f c e", "-1 a b d c e", "1 a b f c e")
        self.assertEqual(differences(told), {(): -2})
        book = book_of(["a b d", "a b f"], ["a b c", "a b e", "a c d", "a d e", "a c f", "a e f", "a c e"])
        self.check(book, [told], True)
        told = step("a b f", "a b f c e", "1 a b d c e", "1 a d f c e")
        self.assertEqual(differences(told), {(): 2})
        self.check(book_of(["a b d", "a d f"], texts(book.aparts())), [told], True)

    def test_but_for_the_empty_tuple_by_an_odd_number(self):
        book = book_of(FANO, others=["c e f"])
        self.assertEqual(differences(SEVENTH), {(): 1})
        self.check(book, [SEVENTH], False)
        other = step(
            "c e f", "e c f b d", "-1 a f g b d", "1 b a c d e", "-1 b d f a e", "1 b e g a d", "-1 d a e b c",
            "1 d a e b f", "-1 d c g a b",
        )
        self.assertEqual(differences(other), {(): -1})
        self.check(book, [other], False)

    def test_of_other_names(self):
        for book in (Book(), book_of(PAPPUS, others=[]), book_of(["a b c", "a b d"], ["a b e"], ["a c d"])):
            self.check(book, [FIRST], False)
        other = renamed([FIRST], dict(zip("abcdxy", ("aa", "ab", "ac", "ad", "xx", "yy"))))
        self.check(book_of(PAIR_LINES, PAIR_APARTS), other, False)
        self.check(book_of(PAIR_LINES, PAIR_APARTS), [FIRST] + other, False)

    def test_a_claim_that_is_apart(self):
        # No drawing keeps this book, but the ground stands.
        self.check(book_of(PAIR_LINES, PAIR_APARTS + ("a c d",)), [FIRST], True)

    def test_without_the_rows_that_it_does_not_use(self):
        for book, claim in self.grounded_books():
            ground = in_rounds(book, *claim, 3)[1]
            self.assertTrue(ground)
            self.check(book, ground, True)
            lines, aparts = used_rows(ground)
            self.assertLess(len(lines) + len(aparts), len(book.lines()) + len(book.aparts()))
            self.check(book_of(texts(lines), texts(aparts)), ground, True)
            for gone in lines:
                self.check(book_of(texts(without(lines, gone)), texts(aparts)), ground, False)
            for gone in aparts:
                self.check(book_of(texts(lines), texts(without(aparts, gone))), ground, False)

    def grounded_books(self):
        found = [(book_of(PAPPUS, others=["g h i"]), "ghi"), (book_of(DESARGUES, others=["p q r"]), "pqr")]
        return found + [(chain_book(), claim) for claim in ("acd", "ace", "abf", "efg")]

    def test_right_again_behind_a_further_row(self):
        book = book_of(PAIR_LINES[:1], PAIR_APARTS[:6])
        self.check(book, [FIRST], False)
        book.say_apart("a", "x", "y")
        self.check(book, [FIRST], False)
        book.say_line("a", "b", "d")
        self.check(book, [FIRST], True)

    def test_mixed_changes(self):
        numbers = Numbers(51)
        seen = {True: 0, False: 0}
        for book, claim in self.grounded_books():
            ground = in_rounds(book, *claim, 3)[1]
            fives = plain_exchanges(book.names())
            for number in range(60):
                changed = self.changed(numbers, ground, fives)
                expected = expected_stands(book, changed)
                self.assertEqual(stands(book, changed), expected)
                seen[expected] += 1
        self.assertGreater(min(seen.values()), 20)

    def changed(self, numbers, ground, fives):
        found = [(claim, target, list(parts)) for claim, target, parts in ground]
        place = numbers.below(len(found))
        claim, target, parts = found[place]
        deed = numbers.below(6)
        if deed == 0:
            often, exchange = parts.pop(numbers.below(len(parts)))
        elif deed == 1:
            spot = numbers.below(len(parts))
            parts[spot] = (parts[spot][0] * 2, parts[spot][1])
        elif deed == 2:
            more = numbers.picked(fives)
            if more not in [exchange for often, exchange in parts]:
                parts.append((1, more))
                parts.sort(key=lambda part: part[1])
        elif deed == 3:
            found = numbers.mixed(found)
        elif deed == 4:
            found.pop(place)
        else:
            found = [found[place]] + found
        return found


class ShortenedTest(unittest.TestCase):
    def check(self, ground, expected):
        before = copy.deepcopy(ground)
        told = shortened(ground)
        self.assertEqual(told, expected)
        self.assertEqual(ground, before)
        self.assertIs(type(told), list)
        self.assertEqual(shortened(told), told)

    def test_without_steps(self):
        self.check([], [])

    def test_one_step(self):
        self.check([FIRST], [FIRST])
        self.check([step("a c d", "a c d x y")], [step("a c d", "a c d x y")])

    def test_steps_that_are_needed(self):
        self.check([FIRST, SECOND], [FIRST, SECOND])
        self.check([FIRST, SECOND, THIRD], [FIRST, SECOND, THIRD])

    def test_steps_that_are_not_needed(self):
        self.check([SECOND, FIRST], [FIRST])
        self.check([FIRST, THIRD], [THIRD])
        other = step("b c d", "b c d x y", "1 b a d x y", "-1 b a c x y")
        self.check([other, FIRST, other, SECOND], [FIRST, SECOND])
        self.check([FIRST, other, SECOND, other, THIRD], [FIRST, SECOND, THIRD])
        self.check([FIRST, SECOND, THIRD, other], [other])

    def test_steps_that_only_a_left_out_step_needs(self):
        other = step("b c d", "b c d x y", "1 b a d x y", "-1 b a c x y")
        self.check([FIRST, SECOND, other], [other])
        self.check([FIRST, SECOND, FIRST], [FIRST])
        self.check([FIRST, SECOND, THIRD, other, FIRST, SECOND], [FIRST, FIRST, SECOND])

    def test_the_step_that_only_stays_for_a_later_one(self):
        # THIRD rests on SECOND's claim, not on FIRST's own: FIRST stays for SECOND's sake.
        self.assertNotIn(FIRST[0], [in_order(*exchange[:3]) for often, exchange in THIRD[2]])
        self.check([FIRST, SECOND, THIRD], [FIRST, SECOND, THIRD])

    def test_a_step_behind_all_that_need_it(self):
        self.check([SECOND, FIRST, THIRD], [SECOND, THIRD])

    def test_two_steps_of_the_same_claim(self):
        self.check([FIRST, FIRST], [FIRST])
        self.check([FIRST, FIRST, SECOND], [FIRST, FIRST, SECOND])
        again = step("a c d", "a c d x y", "1 a c d x y")
        self.check([FIRST, again], [FIRST, again])
        self.check([again, FIRST], [FIRST])
        self.check([FIRST, again, SECOND], [FIRST, again, SECOND])
        self.check([FIRST, SECOND, again], [FIRST, again])

    def test_a_part_that_rests_on_the_claim_by_other_names_first(self):
        # b d a rests on the triple a b d.
        one = step("a b d", "a b d x y", "1 a b c x y")
        other = step("b c e", "b c e x y", "1 b a d x y")
        self.check([one, other], [one, other])
        self.check([one, step("b c e", "b c e x y", "1 b a c d x")], [step("b c e", "b c e x y", "1 b a c d x")])

    def test_what_is_shortened_stands(self):
        book = chain_book()
        numbers = Numbers(52)
        for number in range(40):
            ground = []
            for claim in numbers.mixed(["acd", "ace", "abf", "cef", "bcd", "efg"])[:3]:
                ground = ground + in_rounds(book, *claim, 3)[1]
            self.assertTrue(stands(book, ground))
            told = shortened(ground)
            self.assertTrue(stands(book, told))
            self.assertEqual(told[-1], ground[-1])
            self.assertEqual(told, self.plainly(ground))

    def plainly(self, ground):
        stays = [True] * len(ground)
        for place in range(len(ground) - 2, -1, -1):
            later = [told for spot, told in enumerate(ground) if spot > place and stays[spot]]
            rested = {in_order(*exchange[:3]) for told in later for often, exchange in told[2]}
            stays[place] = ground[place][0] in rested
        return [told for told, stay in zip(ground, stays) if stay]


class JoinedTest(unittest.TestCase):
    def check(self, one, other, expected):
        before = copy.deepcopy((one, other))
        told = joined(one, other)
        self.assertEqual(told, expected)
        self.assertIs(type(told), list)
        self.assertEqual((one, other), before)

    def test_without_steps(self):
        self.check([], [], [])
        self.check([FIRST], [], [FIRST])
        self.check([], [FIRST], [FIRST])

    def test_unlike_claims(self):
        self.check([FIRST], [SECOND], [FIRST, SECOND])
        self.check([SECOND], [FIRST], [SECOND, FIRST])
        self.check([FIRST, THIRD], [SECOND], [FIRST, THIRD, SECOND])

    def test_like_claims_in_both(self):
        again = step("a c d", "a c d x y", "1 a c d x y")
        self.check([FIRST], [FIRST], [FIRST])
        self.check([FIRST], [again], [FIRST])
        self.check([again], [FIRST], [again])
        self.check([FIRST], [again, SECOND], [FIRST, SECOND])
        self.check([FIRST, SECOND], [SECOND, THIRD, FIRST], [FIRST, SECOND, THIRD])

    def test_like_claims_in_the_one(self):
        self.check([FIRST, FIRST], [], [FIRST, FIRST])
        self.check([FIRST, SECOND, FIRST], [SECOND, THIRD], [FIRST, SECOND, FIRST, THIRD])

    def test_like_claims_in_the_other(self):
        again = step("a c d", "a c d x y", "1 a c d x y")
        self.check([], [FIRST, FIRST], [FIRST])
        self.check([SECOND], [FIRST, again, THIRD, FIRST], [SECOND, FIRST, THIRD])
        self.check([], [again, FIRST], [again])

    def test_nothing_is_shortened(self):
        self.check([SECOND, FIRST], [THIRD], [SECOND, FIRST, THIRD])

    def test_what_is_joined_stands(self):
        book = chain_book()
        for one in ("acd", "ace", "bcd", "abf"):
            first = in_rounds(book, *one, 3)[1]
            with_claims = chain_book()
            for told in first:
                with_claims.say_line(*told[0])
            for other in ("ace", "abe", "abf", "cef", "efg", "fgh"):
                second = in_rounds(with_claims, *other, 3)
                if second[0] == "ground":
                    self.assertTrue(stands(with_claims, second[1]))
                    self.assertTrue(stands(book, joined(first, second[1])))
        self.assertFalse(stands(book, [SECOND]))
        self.assertTrue(stands(book, joined([FIRST], [SECOND])))


class RenamedTest(unittest.TestCase):
    def check(self, ground, by, expected):
        before = copy.deepcopy((ground, by))
        told = renamed(ground, by)
        self.assertEqual(told, expected)
        self.assertTrue(is_built(told))
        self.assertEqual((ground, by), before)

    def test_without_steps(self):
        self.check([], {}, [])
        self.check([], {"a": "b"}, [])

    def test_to_the_same_names(self):
        ground = [FIRST, SECOND, THIRD]
        self.check(ground, {name: name for name in "abcdefxy"}, ground)

    def test_in_the_same_order(self):
        by = {"a": "a", "b": "ab", "c": "b", "d": "ba", "x": "y", "y": "z"}
        expected = step("a b ba", "a b ba y z", "-1 a ab b y z", "1 a ab ba y z")
        self.check([FIRST], by, [expected])

    def test_one_change_about_in_a_part(self):
        # b and c change places: the first part alone is changed about.
        by = {"a": "a", "b": "c", "c": "b", "d": "d", "x": "x", "y": "y"}
        self.check([FIRST], by, [step("a b d", "a b d x y", "1 a b c x y", "1 a c d x y")])

    def test_one_change_about_in_the_target(self):
        # c and d change places: the target alone is changed about, so all times change their sign.
        by = {"a": "a", "b": "b", "c": "d", "d": "c", "x": "x", "y": "y"}
        self.check([FIRST], by, [step("a c d", "a c d x y", "-1 a b c x y", "1 a b d x y")])

    def test_one_change_about_in_all(self):
        # x and y change places everywhere: the signs are changed twice.
        by = {"a": "a", "b": "b", "c": "c", "d": "d", "x": "y", "y": "x"}
        self.check([FIRST], by, [FIRST])

    def test_two_changes_about(self):
        # d c b for b c d: the parts are changed about, the target too; with x and y each is changed twice.
        by = {"a": "a", "b": "d", "c": "c", "d": "b", "x": "x", "y": "y"}
        self.check([FIRST], by, [step("a b c", "a b c x y", "1 a b d x y", "-1 a c d x y")])
        by = {"a": "a", "b": "d", "c": "c", "d": "b", "x": "y", "y": "x"}
        self.check([FIRST], by, [step("a b c", "a b c x y", "1 a b d x y", "-1 a c d x y")])

    def test_times_other_than_one(self):
        told = step("a c d", "a c d x y", "-3 a b c x y", "7 a b d x y")
        by = {"a": "a", "b": "c", "c": "b", "d": "d", "x": "x", "y": "y"}
        self.check([told], by, [step("a b d", "a b d x y", "3 a b c x y", "7 a c d x y")])
        by = {"a": "a", "b": "b", "c": "d", "d": "c", "x": "x", "y": "y"}
        self.check([told], by, [step("a c d", "a c d x y", "-7 a b c x y", "3 a b d x y")])

    def test_parts_come_in_order_again(self):
        by = {"a": "y", "b": "x", "c": "d", "d": "c", "e": "e", "x": "b", "y": "a"}
        expected = step("c d y", "y c d a b", "1 y c x a b", "-1 y d x a b")
        self.check([FIRST], by, [expected])
        by = {"a": "c", "c": "a", "d": "d", "e": "e", "x": "x", "y": "y"}
        told = step("a c e", "c a e x y", "1 a c d x y", "2 c d e x y")
        self.check([told], by, [step("a c e", "a c e x y", "2 a d e x y", "1 c a d x y")])

    def test_a_step_without_parts(self):
        by = {"a": "z", "c": "y", "d": "c", "x": "b", "y": "a"}
        self.check([step("a c d", "a c d x y")], by, [step("c y z", "z c y a b")])

    def test_more_names_than_it_has(self):
        by = {name: "z" + name for name in "abcdefghijklmnopqrstuvwxy"}
        expected = step("za zc zd", "za zc zd zx zy", "-1 za zb zc zx zy", "1 za zb zd zx zy")
        self.check([FIRST], by, [expected])

    def test_each_order_of_names(self):
        book = book_of(PAIR_LINES, PAIR_APARTS)
        kinds = set()
        for told in itertools.permutations("abcdxy"):
            by = dict(zip("abcdxy", told))
            found = renamed([FIRST], by)
            self.assertTrue(is_built(found))
            self.assertTrue(stands(self.renamed_book(book, by), found))
            self.assertEqual(renamed(found, {name: other for other, name in by.items()}), [FIRST])
            self.assertEqual(found, self.plainly([FIRST], by))
            kinds.add(tuple(often for often, exchange in found[0][2]))
        self.assertEqual(kinds, {(1, 1), (1, -1), (-1, 1)})

    def test_known_grounds(self):
        numbers = Numbers(53)
        words = ["a", "aa", "ab", "b", "ba", "c", "h", "o", "z", "zz", "q", "abcdefgh", "hgfedcba"]
        for book, claim in ((book_of(PAPPUS, others=["g h i"]), "ghi"), (book_of(DESARGUES, others=["p q r"]), "pqr"),
                            (chain_book(), "efg"), (chain_book(), "abf")):
            ground = in_rounds(book, *claim, 3)[1]
            for number in range(12):
                by = dict(zip(book.names(), numbers.mixed(words)))
                found = renamed(ground, by)
                self.assertTrue(is_built(found))
                self.assertTrue(stands(self.renamed_book(book, by), found))
                self.assertEqual(renamed(found, {name: other for other, name in by.items()}), ground)
                self.assertEqual(found, self.plainly(ground, by))

    def test_what_does_not_stand_does_not_stand_renamed(self):
        book = book_of(FANO, others=["c e f"])
        for told in itertools.islice(itertools.permutations("abcdefg"), 0, None, 97):
            by = dict(zip("abcdefg", told))
            self.assertFalse(stands(self.renamed_book(book, by), renamed([SEVENTH], by)))

    def renamed_book(self, book, by):
        found = Book()
        for row in book.lines():
            found.say_line(*[by[name] for name in row])
        for row in book.aparts():
            found.say_apart(*[by[name] for name in row])
        return found

    def plainly(self, ground, by):
        found = []
        for claim, target, parts in ground:
            sign, five = self.made_plain(target, by)
            more = []
            for often, exchange in parts:
                other_sign, other = self.made_plain(exchange, by)
                more.append((other, often * sign * other_sign))
            found.append((in_order(*[by[name] for name in claim]), five, [(often, one) for one, often in sorted(more)]))
        return found

    def made_plain(self, exchange, by):
        a, b, c, d, e = [by[name] for name in exchange]
        sign = 1
        if b > c:
            b, c, sign = c, b, -sign
        if d > e:
            d, e, sign = e, d, -sign
        return sign, (a, b, c, d, e)


class OwnTest(unittest.TestCase):
    DEEDS = (
        lambda ground: shortened(ground),
        lambda ground: joined(ground, ground[:1]),
        lambda ground: joined(ground[:1], ground),
        lambda ground: joined([], ground),
        lambda ground: renamed(ground, {name: name for name in "abcdefxy"}),
    )

    def test_what_is_told_is_the_askers_own(self):
        for deed in OwnTest.DEEDS:
            handed = copy.deepcopy([FIRST, SECOND, THIRD])
            kept = copy.deepcopy(handed)
            told = deed(handed)
            first = copy.deepcopy(told)
            for claim, target, parts in told:
                parts.append("z")
                parts.pop(0)
            told.clear()
            self.assertEqual(handed, kept)
            self.assertEqual(deed(handed), first)

    def test_what_is_handed_in_changes_nothing_told(self):
        for deed in OwnTest.DEEDS:
            handed = copy.deepcopy([FIRST, SECOND, THIRD])
            told = deed(handed)
            kept = copy.deepcopy(told)
            for claim, target, parts in handed:
                parts.clear()
            handed.clear()
            self.assertEqual(told, kept)

    def test_no_list_stands_at_two_places(self):
        # One list of parts handed in at several places.
        same = copy.deepcopy(FIRST)
        for told in (shortened([same, same, SECOND]), joined([same, same], [same]), joined([same], [SECOND, same]),
                     renamed([same, same], {name: name for name in "abcdxy"})):
            places = [id(parts) for claim, target, parts in told]
            self.assertEqual(len(set(places)), len(places))
            self.assertNotIn(id(same[2]), places)

    def test_stands_keeps_nothing(self):
        book = book_of(PAIR_LINES, PAIR_APARTS)
        before = rows_of(book)
        ground = [copy.deepcopy(FIRST)]
        self.assertTrue(stands(book, ground))
        self.assertEqual(rows_of(book), before)
        # The claim that stood is no line for a later call.
        self.assertFalse(stands(book, [step("a c d", "a c d x y", "1 a c d x y")]))
        ground[0][2].pop()
        self.assertFalse(stands(book, ground))

    def test_a_ground_that_is_found_is_changed_by_the_asker(self):
        book = book_of(PAIR_LINES, PAIR_APARTS)
        told = in_one_step(book, "a", "c", "d")
        self.assertEqual(told, ("ground", [FIRST]))
        told[1][0][2].clear()
        self.assertFalse(stands(book, told[1]))
        self.assertEqual(in_one_step(book, "a", "c", "d"), ("ground", [FIRST]))


if __name__ == "__main__":
    unittest.main()

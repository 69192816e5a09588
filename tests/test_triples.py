import copy
import itertools
import unittest

from helper import ANY_THINGS
from linesaid.triples import all_triples, is_name, triple, turn

# The turn of each of the six orders of three, as itertools.permutations tells them.
TURNS = [1, -1, -1, 1, 1, -1]

IN_ORDER = (
    ("a", "b", "c"),
    ("a", "ab", "abc"),
    ("a", "aa", "aaa"),
    ("ab", "abc", "b"),
    ("a", "b", "ba"),
    ("az", "b", "ba"),
    ("p", "q", "qqqqqqqq"),
    ("zzzzzzz", "zzzzzzzy", "zzzzzzzz"),
)


class NameTest(unittest.TestCase):
    def test_one_to_eight_small_letters(self):
        for letter in "abcdefghijklmnopqrstuvwxyz":
            for many in range(1, 9):
                self.assertIs(is_name(letter * many), True, (letter, many))
        for text in ("ab", "ba", "name", "abcdefgh", "stuvwxyz", "none", "line"):
            self.assertIs(is_name(text), True, text)

    def test_empty_and_longer(self):
        for text in ("", "abcdefghi", "aaaaaaaaa", "a" * 16, "a" * 6000):
            self.assertIs(is_name(text), False, len(text))

    def test_other_signs(self):
        signs = [chr(number) for number in range(32, 127)] + ["\n", "\t"]
        for sign in signs:
            if not "a" <= sign <= "z":
                for text in (sign, "a" + sign, sign + "a", "ab" + sign + "cd", "abcdefg" + sign):
                    self.assertIs(is_name(text), False, repr(text))

    def test_what_is_no_text(self):
        for thing in ANY_THINGS:
            if not isinstance(thing, str):
                self.assertIs(is_name(thing), False, repr(thing))
        for thing in (0, 1, True, False, None, [], ["a"], ["a", "b"], (), ("a",), [["a"]], (("a",),)):
            self.assertIs(is_name(thing), False, repr(thing))

    def test_the_thing_is_as_it_was(self):
        before = copy.deepcopy(ANY_THINGS)
        for thing in ANY_THINGS:
            is_name(thing)
        self.assertEqual(ANY_THINGS, before)


class TripleTest(unittest.TestCase):
    def test_all_six_orders(self):
        for three in IN_ORDER:
            for told in itertools.permutations(three):
                self.assertEqual(triple(*told), three)
                self.assertIs(type(triple(*told)), tuple)

    def test_the_begin_of_a_longer_one_comes_before_it(self):
        self.assertEqual(triple("abcd", "abc", "ab"), ("ab", "abc", "abcd"))
        self.assertEqual(triple("b", "ab", "a"), ("a", "ab", "b"))
        self.assertEqual(triple("ba", "b", "az"), ("az", "b", "ba"))


class TurnTest(unittest.TestCase):
    def test_all_six_orders(self):
        for three in IN_ORDER:
            self.assertEqual([turn(*told) for told in itertools.permutations(three)], TURNS)

    def test_it_is_a_whole_number(self):
        for told in itertools.permutations(("a", "ab", "b")):
            self.assertIs(type(turn(*told)), int)

    def test_a_change_of_two_places_changes_it(self):
        for A, B, C in itertools.permutations(("a", "ab", "abc", "b", "ba", "c"), 3):
            here = turn(A, B, C)
            self.assertEqual([turn(B, A, C), turn(A, C, B), turn(C, B, A)], [-here] * 3)
            self.assertEqual([turn(B, C, A), turn(C, A, B)], [here] * 2)


class AllTriplesTest(unittest.TestCase):
    def test_written_out(self):
        told = [("a", "b", "c"), ("a", "b", "d"), ("a", "c", "d"), ("b", "c", "d")]
        for names in itertools.permutations("abcd"):
            self.assertEqual(all_triples(list(names)), told)

    def test_names_that_are_begins_of_one_another(self):
        told = [("a", "aa", "ab"), ("a", "aa", "b"), ("a", "ab", "b"), ("aa", "ab", "b")]
        for names in itertools.permutations(("a", "aa", "ab", "b")):
            self.assertEqual(all_triples(list(names)), told)

    def test_fewer_than_four(self):
        for names in ([], ["a"], ["b", "a"]):
            self.assertEqual(all_triples(names), [])
        for names in itertools.permutations(("b", "ab", "abc")):
            self.assertEqual(all_triples(list(names)), [("ab", "abc", "b")])

    def test_many(self):
        names = ["h", "aa", "z", "b", "ab", "c", "a", "ba", "zz", "i", "q", "d"]
        told = all_triples(names)
        self.assertEqual(told, list(itertools.combinations(sorted(names), 3)))
        self.assertEqual(len(told), 220)
        self.assertEqual(told, sorted(told))

    def test_the_names_are_as_they_were(self):
        names = ["d", "b", "a", "c"]
        all_triples(names)
        self.assertEqual(names, ["d", "b", "a", "c"])

    def test_the_list_is_the_askers_own(self):
        names = ["d", "b", "a", "c"]
        first = all_triples(names)
        kept = list(first)
        first.clear()
        self.assertEqual(all_triples(names), kept)
        again = all_triples(names)
        names.append("e")
        self.assertEqual(again, kept)


if __name__ == "__main__":
    unittest.main()

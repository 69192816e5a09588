import copy
import itertools
import unittest

from helper import DESARGUES, PAPPUS, Numbers, book_of, is_share, is_whole, weights_hold
from linesaid.exchanges import exchanges, targets, vector
from linesaid.sums import reach

A, B, C = ("a",), ("a", "b"), ("a", "b", "c")
SIXTY = 10 ** 60 - 1

KEYS = [(), ("a",), ("aa",), ("a", "b"), ("a", "b", "c"), ("a", "b", "d"), ("b", "c", "d", "e"), ("z",)]


def added(vectors, numbers):
    total = {}
    for one, often in zip(vectors, numbers, strict=True):
        for key, number in one.items():
            total[key] = total.get(key, 0) + often * number
    return {key: number for key, number in total.items() if number != 0}


class SumsTest(unittest.TestCase):
    """Each answer is held against the document's words: a right sum and right weights can't both be there."""

    def check(self, vectors, target, kind=None):
        before = copy.deepcopy((vectors, target))
        told = reach(vectors, target)
        self.assertEqual((vectors, target), before)
        self.assertIs(type(told), tuple)
        self.assertEqual(len(told), 2)
        if kind is not None:
            self.assertEqual(told[0], kind, (vectors, target))
        if told[0] == "sum":
            self.check_sum(vectors, target, told[1])
        else:
            self.assertEqual(told[0], "weights")
            self.check_weights(vectors, target, told[1])
        return told[0]

    def check_sum(self, vectors, target, numbers):
        self.assertIs(type(numbers), list)
        self.assertEqual(len(numbers), len(vectors))
        self.assertTrue(all(is_whole(number) for number in numbers))
        total = added(vectors, numbers)
        for key in set(total) | set(target):
            differs = total.get(key, 0) - target.get(key, 0)
            self.assertEqual(differs % 2 if key == () else differs, 0, (vectors, target, numbers))

    def check_weights(self, vectors, target, weights):
        self.assertIs(type(weights), dict)
        for key, weight in weights.items():
            self.assertIs(type(key), tuple)
            self.assertTrue(is_share(weight))
        self.assertTrue(weights_hold(vectors, target, weights), (vectors, target, weights))

    def check_orders(self, vectors, target, kind):
        for mixed in itertools.permutations(vectors):
            self.check(list(mixed), target, kind)


class WrittenOutTest(SumsTest):
    def test_one_number_alone(self):
        self.assertEqual(reach([{A: 1}], {A: 5}), ("sum", [5]))
        self.assertEqual(reach([{A: 2}], {A: -6}), ("sum", [-3]))
        self.assertEqual(reach([{A: 1}, {B: 1, A: 1}], {B: -2}), ("sum", [2, -2]))
        self.assertEqual(reach([{A: -3, B: 1}], {A: 6, B: -2}), ("sum", [-2]))

    def test_reached(self):
        self.check_orders([{A: 2}, {A: 3}], {A: 1}, "sum")
        self.check_orders([{A: 6}, {A: 10}, {A: 15}], {A: 1}, "sum")
        self.check_orders([{A: 1, B: 1}, {A: 1, B: -1}], {A: 2}, "sum")
        self.check_orders([{A: 2, B: 1}, {A: 1, B: 2}, {A: 1, B: 1}], {A: 1}, "sum")
        self.check_orders([{A: 4, B: 1}, {B: 3}, {A: 6}], {A: 12, B: 3}, "sum")

    def test_not_reached(self):
        self.check_orders([{A: 2}], {A: 1}, "weights")
        self.check_orders([{A: 6}, {A: 10}, {A: 14}], {A: 15}, "weights")
        self.check_orders([{A: 1, B: 1}, {A: 1, B: -1}], {A: 1}, "weights")
        self.check_orders([{A: 1, B: 2}, {A: 2, B: 1}], {A: 1, B: 1}, "weights")
        self.check_orders([{A: 4, B: 1}, {B: 3}, {A: 6}], {A: 2, B: 1}, "weights")
        self.check_orders([{A: 1, B: 1}, {B: 1, C: 1}], {A: 1, C: 1}, "weights")

    def test_no_vectors(self):
        self.assertEqual(reach([], {}), ("sum", []))
        self.assertEqual(reach([], {(): 2}), ("sum", []))
        self.assertEqual(reach([], {(): -4}), ("sum", []))
        self.check([], {(): 1}, "weights")
        self.check([], {(): -3}, "weights")
        self.check([], {A: 1}, "weights")
        self.check([], {A: SIXTY, (): 2}, "weights")

    def test_a_target_without_keys(self):
        self.check([{A: 1}, {B: 2, (): 1}], {}, "sum")
        self.check([{}], {}, "sum")
        self.check([{A: 1}, {A: -1, (): 1}], {}, "sum")

    def test_a_vector_without_keys(self):
        self.check_orders([{}, {A: 2}, {}], {A: 4}, "sum")
        self.check_orders([{}, {A: 2}], {A: 3}, "weights")
        self.check([{}], {(): 1}, "weights")

    def test_a_key_that_only_the_target_has(self):
        for number in (1, -1, 2, 6, SIXTY):
            self.check_orders([{A: 1}, {B: 1, (): 1}], {A: 1, C: number}, "weights")
            self.check_orders([{A: 1}], {C: number}, "weights")

    def test_a_key_that_only_a_vector_has(self):
        self.check_orders([{A: 1, C: 1}, {B: 1}], {A: 1}, "weights")
        self.check_orders([{A: 1, C: 1}, {B: 1}], {B: 7}, "sum")
        self.check_orders([{A: 1, C: 1}, {B: 1, C: 1}], {A: 1, B: -1}, "sum")
        self.check_orders([{A: 1, C: 2}, {C: 2}], {A: 1}, "sum")
        self.check_orders([{A: 1, C: 1}, {C: 2}], {A: 1}, "weights")

    def test_the_empty_tuple_alone(self):
        self.check([{(): 1}], {(): 1}, "sum")
        self.check([{(): 3}], {(): 8}, "sum")
        self.check([{(): 3}], {(): -5}, "sum")
        self.check([{(): 2}], {(): 1}, "weights")
        self.check([{(): 4}, {(): -6}], {(): 7}, "weights")
        self.check([{(): 4}], {(): 2}, "sum")
        self.check_orders([{(): 4}, {(): 9}], {(): 7}, "sum")

    def test_but_for_the_empty_tuple_by_even_numbers(self):
        self.check([{A: 1, (): 1}], {A: 1, (): 3}, "sum")
        self.check([{A: 1, (): 1}], {A: 2}, "sum")
        self.check([{A: 1, (): 5}], {A: -1, (): 1}, "sum")
        self.check_orders([{A: 1, (): 1}, {B: 1, (): 1}], {A: 1, B: 1}, "sum")

    def test_but_for_the_empty_tuple_by_an_odd_number(self):
        self.check([{A: 1, (): 1}], {A: 1}, "weights")
        self.check([{A: 1}], {A: 1, (): 1}, "weights")
        self.check([{A: 1, (): 1}], {A: 2, (): 7}, "weights")
        self.check([{A: 2, (): 1}], {A: 4, (): 1}, "weights")
        self.check_orders([{A: 1, (): 1}, {B: 1, (): 1}], {A: 1, B: 1, (): 1}, "weights")
        self.check_orders([{A: 1}, {B: 3}, {A: 2, B: 3}], {A: 5, B: 6, (): 1}, "weights")

    def test_the_odd_number_is_made_by_another_way_to_the_same(self):
        self.check_orders([{A: 1, (): 1}, {A: 1}], {A: 1}, "sum")
        self.check_orders([{A: 2, (): 1}, {A: 3}], {A: 6, (): 1}, "sum")
        self.check_orders([{A: 1, B: 1}, {B: 1, C: 1}, {A: 1, C: -1, (): 1}], {A: 1, B: 1, (): 1}, "sum")
        self.check_orders([{A: 2, (): 1}, {A: 6}], {A: 6}, "sum")
        self.check_orders([{A: 2, (): 1}, {A: 6}], {A: 6, (): 1}, "sum")
        self.check_orders([{A: 2, (): 1}, {A: 4}], {A: 4, (): 1}, "weights")

    def test_the_odd_number_hangs_on_how_often(self):
        # Three times the vector: its own odd number remains.
        self.check([{A: 2, (): 1}], {A: 6, (): 1}, "sum")
        self.check([{A: 2, (): 1}], {A: 6}, "weights")
        self.check([{A: 2, (): 1}], {A: 5, (): 1}, "weights")

    def test_vectors_that_are_alike(self):
        same = {A: 2, B: 1}
        self.check([same, same, same], {A: 4, B: 2}, "sum")
        self.check([same, same], {A: 2}, "weights")
        self.check([dict(same), dict(same), {A: -2, B: -1}], {A: -2, B: -1}, "sum")
        self.check([{A: 2}] * 5, {A: 5}, "weights")

    def test_vectors_that_are_sums_of_others(self):
        one, other = {A: 3, B: 1, (): 1}, {B: 2, C: -1}
        more = [added([one, other], numbers) for numbers in ((1, 1), (2, -3), (-4, 5))]
        for target in (one, other, added([one, other], (-7, 2)), {A: 6, B: 4, C: -1}):
            self.check_orders([one, other] + more, target, "sum")
        for target in ({A: 1}, {A: 3}, {B: 2}, {A: 3, B: 1}, {C: 1}):
            self.check_orders([one, other] + more, target, "weights")

    def test_numbers_of_many_figures(self):
        self.check_orders([{A: SIXTY}, {A: SIXTY - 1}], {A: 1}, "sum")
        self.check_orders([{A: SIXTY}, {A: SIXTY - 1}], {A: -SIXTY, (): 2}, "sum")
        self.check_orders([{A: 9 * 10 ** 58}, {A: 6 * 10 ** 58}], {A: 3 * 10 ** 58}, "sum")
        self.check_orders([{A: 9 * 10 ** 58}, {A: 6 * 10 ** 58}], {A: 10 ** 58}, "weights")
        self.check_orders([{A: SIXTY, B: 1}, {A: 1, B: SIXTY}], {A: SIXTY + 1, B: SIXTY + 1}, "sum")
        self.check_orders([{A: SIXTY, B: 1}, {A: 1, B: SIXTY}], {A: 1}, "weights")
        self.check([{A: 2 ** 190}], {A: 2 ** 189}, "weights")
        self.check([{A: 1, (): SIXTY}], {A: 1, (): 1}, "sum")
        self.check([{A: 1, (): SIXTY}], {A: 1}, "weights")


class MixedTest(SumsTest):
    def vector(self, numbers, keys, most, seldom):
        found = {}
        for key in keys:
            number = numbers.signed(most)
            if number != 0 and numbers.below(seldom) == 0:
                found[key] = number
        return found

    def test_small_vectors(self):
        numbers = Numbers(41)
        kinds = {"sum": 0, "weights": 0}
        for number in range(1500):
            keys = KEYS[:1 + numbers.below(6)]
            most, seldom = 1 + numbers.below(6), 1 + numbers.below(3)
            vectors = [self.vector(numbers, keys, most, seldom) for place in range(numbers.below(8))]
            kinds[self.check(vectors, self.vector(numbers, keys, most, seldom))] += 1
        self.assertGreater(min(kinds.values()), 300)

    def test_the_same_kind_in_another_order(self):
        numbers = Numbers(42)
        for number in range(200):
            keys = KEYS[:2 + numbers.below(5)]
            vectors = [self.vector(numbers, keys, 4, 2) for place in range(2 + numbers.below(6))]
            target = self.vector(numbers, keys, 4, 2)
            kind = self.check(vectors, target)
            for mix in range(4):
                turned = [dict(numbers.mixed(one.items())) for one in numbers.mixed(vectors)]
                self.check(turned, dict(numbers.mixed(target.items())), kind)

    def test_sums_are_reached(self):
        numbers = Numbers(43)
        for most in (1, 2, 9, 1000, SIXTY):
            for number in range(40):
                vectors = [self.vector(numbers, KEYS, most, 2) for place in range(1 + numbers.below(9))]
                target = added(vectors, [numbers.signed(5) for one in vectors])
                self.check(vectors, target, "sum")
                target[()] = target.get((), 0) + 2 * numbers.signed(5)
                self.check(vectors, {key: found for key, found in target.items() if found != 0}, "sum")

    def test_what_is_doubled_is_not_reached_by_half(self):
        numbers = Numbers(44)
        for most in (1, 9, SIXTY // 2):
            for number in range(40):
                vectors = [self.vector(numbers, KEYS, most, 2) for place in range(1 + numbers.below(9))]
                doubled = [added([one], [2]) for one in vectors]
                target = added(vectors, [2 * numbers.signed(3) for one in vectors])
                self.check(doubled, target, "sum")
                target[("z",)] = target.get(("z",), 0) + 1
                self.check(doubled, {key: found for key, found in target.items() if found != 0}, "weights")

    def test_large_numbers(self):
        numbers = Numbers(45)
        for many in range(1, 10):
            vectors = [self.vector(numbers, KEYS, SIXTY, 1) for place in range(many)]
            self.check(vectors, self.vector(numbers, KEYS, SIXTY, 1), "weights" if many < 7 else None)
            self.check(vectors, added(vectors, [numbers.signed(SIXTY) for one in vectors]), "sum")

    def test_many_vectors_and_many_keys(self):
        numbers = Numbers(46)
        keys = [(first + second,) for first in "abcdefgh" for second in "abcdefgh"]
        for many in (20, 64, 300):
            vectors = [self.vector(numbers, keys, 1, 10) for place in range(many)]
            self.check(vectors, added(vectors, [numbers.signed(2) for one in vectors]), "sum")
            self.check(vectors, self.vector(numbers, keys, 1, 10))
        long_keys = [tuple(names) for names in itertools.product("abc", "abcdefghij", "abcdefghij")]
        vectors = [self.vector(numbers, long_keys, 3, 2) for place in range(6)]
        self.check(vectors, added(vectors, [1, -2, 0, 5, 1, 1]), "sum")
        self.check(vectors, self.vector(numbers, long_keys, 3, 2), "weights")

    def test_the_numbers_do_not_grow_beyond_all_bounds(self):
        numbers = Numbers(47)
        keys = [(first + second,) for first in "abcde" for second in "abcdef"]
        vectors = [self.vector(numbers, keys, 9, 1) for place in range(45)]
        target = added(vectors, [numbers.signed(2) for one in vectors])
        self.check(vectors, target, "sum")
        self.assertLess(max(abs(number) for number in reach(vectors, target)[1]), 10 ** 300)


class ExchangesTest(SumsTest):
    def test_known_books(self):
        for rows, claim in ((PAPPUS, "g h i"), (DESARGUES, "p q r")):
            book = book_of(rows, others=[claim])
            vectors = [vector(one) for one in exchanges(book)]
            found = targets(book, tuple(claim.split()))
            kinds = [self.check(vectors, vector(one)) for one in found[:12]]
            self.assertEqual(kinds[0], "sum")

    def test_without_one_row_nothing_is_reached(self):
        for left in range(len(PAPPUS)):
            rows = [row for place, row in enumerate(PAPPUS) if place != left]
            book = book_of(rows, others=["g h i"])
            vectors = [vector(one) for one in exchanges(book)]
            for one in targets(book, ("g", "h", "i"))[::6]:
                self.check(vectors, vector(one), "weights")

    def test_the_other_sign_is_not_reached(self):
        book = book_of(PAPPUS, others=["g h i"])
        vectors = [vector(one) for one in exchanges(book)]
        for one in targets(book, ("g", "h", "i"))[::6]:
            target = vector(one)
            self.check(vectors, target, "sum")
            target[()] = target.get((), 0) + 1
            self.check(vectors, target, "weights")


class OwnTest(SumsTest):
    def test_what_is_told_is_the_askers_own(self):
        vectors = [{A: 2, (): 1}, {A: 4}, {B: 1}]
        for target in ({A: 4, B: 3, (): 1}, {A: 1}, {C: 2}):
            told = reach(vectors, target)
            kept = copy.deepcopy(told)
            told[1].clear()
            self.assertEqual(reach(vectors, target), kept)

    def test_what_is_told_is_not_changed_later(self):
        vectors = [{A: 2, (): 1}, {A: 4}, {B: 1}]
        for target in ({A: 4, B: 3, (): 1}, {A: 1}, {C: 2}):
            handed = copy.deepcopy((vectors, target))
            told = reach(handed[0], handed[1])
            kept = copy.deepcopy(told)
            handed[0][0][B] = 7
            handed[0].pop()
            handed[1].clear()
            reach(handed[0], handed[1])
            self.assertEqual(told, kept)
            self.assertEqual(reach(vectors, target), kept)


if __name__ == "__main__":
    unittest.main()

"""scatterwords/places.py: letters at addresses, the order of places, cuts, ends and walks."""

import copy
import inspect
import itertools
import unittest

from helpers import (A, B, C, EMPTY, MOST, join, left, nested, right, some_places, some_words,
                     times)
from scatterwords.errors import InvalidAddress
from scatterwords.places import compare, cut, first_place, last_place, letter_at, walk
from scatterwords.words import MARKED, is_empty, joined, length, letter_count, mirror
from scatterwords.wordtext import parse_word

SIGNS = ("a", "b", "c", *MARKED)

# A word with a node of each kind, and addresses of its places.
MIXED = join(A, EMPTY, right(join(B, C)), times(left(join(C, A)), 3), B)
MIXED_PLACES = (
    ((0,), "a"),
    ((2, 0, 0), "b"),
    ((2, 0, 1), "c"),
    ((2, MOST, 1), "c"),
    ((3, 0, 0, 0), "c"),
    ((3, 2, MOST, 1), "a"),
    ((4,), "b"),
)

# Each is no address of a place of the word.
BENT = (
    (EMPTY, ()),
    (EMPTY, (0,)),
    (A, (0,)),
    (A, (-1,)),
    (join(A, B), ()),
    (join(A, B), (2,)),
    (join(A, B), (-1,)),
    (join(A, B), (-2,)),
    (join(A, B), (MOST,)),
    (join(A, B), (0, 0)),
    (join(A, EMPTY), (1,)),
    (join(A, EMPTY), (1, 0)),
    (times(A, 3), ()),
    (times(A, 3), (3,)),
    (times(A, 3), (4,)),
    (times(A, 3), (-1,)),
    (times(A, 3), (0, 0)),
    (times(A, 0), (0,)),
    (times(A, 0), (-1,)),
    (times(A, 1), (1,)),
    (times(A, MOST), (MOST,)),
    (times(A, MOST), (MOST + 1,)),
    (times(A, MOST), (-MOST,)),
    (times(EMPTY, 3), (1,)),
    (right(A), ()),
    (right(A), (-1,)),
    (right(A), (MOST + 1,)),
    (right(A), (0, 0)),
    (right(EMPTY), (0,)),
    (left(A), ()),
    (left(A), (-1,)),
    (left(A), (MOST + 1,)),
    (left(A), (0, 0)),
    (left(EMPTY), (0,)),
    (right(join(A, B)), (0,)),
    (right(join(A, B)), (0, 2)),
    (right(join(A, B)), (0, -1)),
    (left(times(A, 2)), (5, 2)),
    (right(left(A)), (0, MOST + 1)),
    (right(left(A)), (MOST + 1, 0)),
    (join(A, times(B, 0)), (1, 0)),
    (MIXED, ()),
    (MIXED, (0, 0)),
    (MIXED, (1,)),
    (MIXED, (2,)),
    (MIXED, (2, 0)),
    (MIXED, (2, 0, 2)),
    (MIXED, (2, 0, 0, 0)),
    (MIXED, (3, 3, 0, 0)),
    (MIXED, (3, 2, 0)),
    (MIXED, (3, 2, MOST + 1, 0)),
    (MIXED, (5,)),
    (A, (0,) * 1000),
    (nested(A, 19), (0,) * 18),
    (nested(A, 19), (0,) * 20),
)

# No place at all.
PLACELESS = (
    EMPTY,
    times(A, 0),
    times(right(A), 0),
    times(EMPTY, MOST),
    times(times(times(A, 0), MOST), MOST),
    right(EMPTY),
    left(EMPTY),
    right(times(left(A), 0)),
    left(right(left(EMPTY))),
    times(right(EMPTY), MOST),
    join(EMPTY, EMPTY),
    join(times(A, 0), left(EMPTY), right(EMPTY)),
    right(join(EMPTY, left(times(B, 0)))),
    nested(EMPTY, 19),
    nested(EMPTY, 19, "left"),
)

# Parts without places, side by side.
NOTHING = (EMPTY, times(B, 0), left(EMPTY), right(times(left(B), 0)), times(EMPTY, MOST))


def listed(word, **more):
    return list(walk(word, **more))


def walked_letters(word, many):
    return "".join(letter_at(word, address) for address in walk(word, many=many))


def with_more_copies(word):
    """Return the addresses of some places of a word, in order, and those for one more copy.

    What is finite is equal in both; what is endless grows.
    """
    return [[address for address, _ in some_places(word, copies)] for copies in (6, 7)]


def shared_beginning(one, other, most):
    """Return the longest list of at most so many items with which both lists begin."""
    found = []
    for row, against in zip(one[:most], other):
        if row != against:
            break
        found.append(row)
    return found


class Addresses(unittest.TestCase):
    """[4]: which tuples are addresses, for all functions that take one."""

    def check_bent(self, word, address):
        with self.subTest(word=word, address=address):
            for act in (letter_at, cut):
                with self.assertRaises(InvalidAddress) as caught:
                    act(word, address)
                self.assertEqual(caught.exception.code, "InvalidAddress")

    def test_what_is_no_address(self):
        for word, address in BENT:
            self.check_bent(word, address)

    def test_all_short_tuples(self):
        for word in some_words(2):
            places = dict(some_places(word, 3))
            for size in range(4):
                for address in itertools.product((-1, 0, 1, 2), repeat=size):
                    if address in places:
                        self.assertEqual(letter_at(word, address), places[address])
                    else:
                        self.check_bent(word, address)

    def test_compare_looks_at_both(self):
        for word, address in BENT:
            good = first_place(word) or last_place(word)
            with self.subTest(word=word, address=address):
                self.assertRaises(InvalidAddress, compare, word, address, address)
                if good is not None:
                    self.assertRaises(InvalidAddress, compare, word, address, good)
                    self.assertRaises(InvalidAddress, compare, word, good, address)

    def test_compare_looks_behind_the_first_difference(self):
        word = join(A, times(B, 2), left(C))
        self.assertEqual(compare(word, (0,), (1, 1)), -1)
        for one, other in (((0,), (1, 2)), ((1, 2), (0,)), ((0,), (2, MOST + 1)),
                           ((0, 0), (1, 0)), ((2, -1), (1, 0)), ((0,), (1,))):
            self.assertRaises(InvalidAddress, compare, word, one, other)


class LetterAt(unittest.TestCase):
    def test_each_kind_of_node(self):
        for address, letter in MIXED_PLACES:
            with self.subTest(address):
                self.assertEqual(letter_at(MIXED, address), letter)

    def test_all_places_of_small_words(self):
        for word in some_words(3):
            for address, letter in some_places(word, 2):
                self.assertEqual(letter_at(word, address), letter)

    def test_great_numbers(self):
        word = times(times(join(A, right(B)), MOST), MOST)
        self.assertEqual(letter_at(word, (MOST - 1, MOST - 1, 0)), "a")
        self.assertEqual(letter_at(word, (MOST - 1, 0, 1, MOST)), "b")
        self.assertEqual(letter_at(right(A), (MOST,)), "a")
        self.assertEqual(letter_at(left(A), (MOST,)), "a")

    def test_20_levels(self):
        self.assertEqual(letter_at(nested(A, 19), (MOST,) * 19), "a")
        self.assertEqual(letter_at(nested(A, 19, "left"), (MOST,) * 19), "a")
        word = C
        for _ in range(19):
            word = times(word, MOST)
        self.assertEqual(letter_at(word, (MOST - 1,) * 19), "c")

    def test_by_name(self):
        self.assertEqual(letter_at(address=(1,), word=join(A, B)), "b")


class Compare(unittest.TestCase):
    def check(self, word, one, other, answer):
        with self.subTest(word=word, one=one, other=other):
            self.assertIs(compare(word, one, other), answer)
            self.assertIs(compare(word, other, one), -answer)

    def test_equal_places(self):
        for address, _ in MIXED_PLACES:
            self.check(MIXED, address, address, 0)
        self.check(A, (), (), 0)

    def test_parts_and_copies_counted_from_the_left(self):
        self.check(join(A, B), (0,), (1,), -1)
        self.check(times(A, MOST), (MOST - 2,), (MOST - 1,), -1)
        self.check(right(A), (0,), (1,), -1)
        self.check(right(A), (9,), (10,), -1)
        self.check(right(join(A, B)), (3, 1), (4, 0), -1)

    def test_copies_of_left_are_turned(self):
        self.check(left(A), (1,), (0,), -1)
        self.check(left(A), (MOST,), (MOST - 1,), -1)
        self.check(left(join(A, B)), (4, 1), (3, 0), -1)
        self.check(left(join(A, B)), (4, 0), (4, 1), -1)

    def test_left_and_right_within_one_another(self):
        self.check(right(left(A)), (2, 7), (2, 6), -1)
        self.check(right(left(A)), (2, 6), (3, 7), -1)
        self.check(left(right(A)), (2, 7), (2, 8), -1)
        self.check(left(right(A)), (3, 8), (2, 7), -1)
        self.check(left(left(A)), (3, 0), (2, 9), -1)

    def test_places_in_their_order(self):
        places = [address for address, _ in MIXED_PLACES]
        places[5], places[4] = places[4], places[5]
        self.assertEqual(compare(MIXED, places[4], places[5]), 1)
        self.check(MIXED, (3, 2, MOST, 1), (3, 2, 0, 0), -1)
        self.check(MIXED, (3, 1, 0, 1), (3, 2, MOST, 0), -1)

    def test_all_pairs_of_small_words(self):
        for word in some_words(3):
            places = [address for address, _ in some_places(word, 2)]
            for (at, one), (against, other) in itertools.product(enumerate(places), repeat=2):
                answer = (at > against) - (at < against)
                self.assertEqual(compare(word, one, other), answer)

    def test_by_name(self):
        self.assertEqual(compare(other=(0,), one=(1,), word=join(A, B)), 1)


class Cut(unittest.TestCase):
    def check_pieces(self, word, address, ahead, letter, behind):
        """Check the letter, and how many a, b and c (or None) are ahead and behind."""
        with self.subTest(word=word, address=address):
            before, found, after = cut(word, address)
            self.assertEqual(found, letter)
            for piece, counts in ((before, ahead), (after, behind)):
                self.assertEqual(tuple(letter_count(piece, sign) for sign in "abc"), counts)
                total = None if None in counts else sum(counts)
                self.assertEqual(length(piece), total)

    def test_the_example_of_the_document(self):
        self.assertEqual(length(cut(parse_word("(ab)>"), (3, 1))[0]), 7)

    def test_a_tuple_of_three(self):
        found = cut(A, ())
        self.assertIs(type(found), tuple)
        self.assertEqual(len(found), 3)
        self.assertEqual((length(found[0]), found[1], length(found[2])), (0, "a", 0))

    def test_parts(self):
        word = join(A, B, C)
        self.check_pieces(word, (0,), (0, 0, 0), "a", (0, 1, 1))
        self.check_pieces(word, (1,), (1, 0, 0), "b", (0, 0, 1))
        self.check_pieces(word, (2,), (1, 1, 0), "c", (0, 0, 0))
        self.check_pieces(join(EMPTY, join(A, B), times(C, 0), C), (1, 1),
                          (1, 0, 0), "b", (0, 0, 1))

    def test_copies(self):
        word = times(join(A, B), 5)
        self.check_pieces(word, (0, 0), (0, 0, 0), "a", (4, 5, 0))
        self.check_pieces(word, (2, 1), (3, 2, 0), "b", (2, 2, 0))
        self.check_pieces(word, (4, 1), (5, 4, 0), "b", (0, 0, 0))

    def test_endless_copies(self):
        word = right(join(A, B))
        self.check_pieces(word, (0, 0), (0, 0, 0), "a", (None, None, 0))
        self.check_pieces(word, (3, 1), (4, 3, 0), "b", (None, None, 0))
        word = left(join(A, B))
        self.check_pieces(word, (0, 1), (None, None, 0), "b", (0, 0, 0))
        self.check_pieces(word, (3, 0), (None, None, 0), "a", (3, 4, 0))

    def test_great_numbers(self):
        word = times(join(A, times(B, MOST), C), MOST)
        last = MOST - 1
        self.check_pieces(word, (last, 1, last), (MOST, last * MOST + last, last), "b", (0, 0, 1))
        self.check_pieces(word, (1, 1, 1), (2, MOST + 1, 1), "b",
                          (MOST - 2, MOST * (MOST - 2) + MOST - 2, MOST - 1))
        self.check_pieces(right(A), (MOST,), (MOST, 0, 0), "a", (None, 0, 0))
        self.check_pieces(left(A), (MOST,), (None, 0, 0), "a", (MOST, 0, 0))

    def test_endless_copies_within_endless_copies(self):
        word = right(join(B, left(A), C))
        self.check_pieces(word, (2, 1, 5), (None, 3, 2), "a", (None, None, None))
        self.check_pieces(word, (0, 0), (0, 0, 0), "b", (None, None, None))
        ahead, _, behind = cut(left(right(join(A, B))), (MOST, 3, 0))
        self.assertEqual((last_place(ahead) is None, first_place(behind) is None), (False, False))
        self.assertEqual(letter_at(behind, first_place(behind)), "b")
        self.assertEqual(letter_at(ahead, last_place(ahead)), "b")
        self.assertIsNone(first_place(ahead))
        self.assertIsNone(last_place(behind))

    def test_the_places_next_to_the_cut(self):
        ahead, letter, behind = cut(MIXED, (3, 1, 4, 0))
        self.assertEqual(letter, "c")
        self.assertEqual(letter_at(ahead, first_place(ahead)), "a")
        self.assertEqual(letter_at(ahead, last_place(ahead)), "a")
        self.assertEqual(letter_at(behind, first_place(behind)), "a")
        self.assertEqual(letter_at(behind, last_place(behind)), "b")
        self.assertEqual(walked_letters(behind, 20), "a" + "ca" * 4)

    def test_small_words_place_by_place(self):
        for word in (*some_words(3), *some_words(4)[::13]):
            fewer = some_places(word, 6)
            more = some_places(word, 7)
            numbers = {address: at for at, (address, _) in enumerate(more)}
            for at, (address, letter) in enumerate(fewer):
                if max(address, default=0) > 2:
                    continue
                ahead, found, behind = cut(word, address)
                self.assertEqual(found, letter)
                at_more = numbers[address]
                self.check_piece(mirror(ahead), fewer[:at][::-1], more[:at_more][::-1])
                self.check_piece(behind, fewer[at + 1:], more[at_more + 1:])

    def check_piece(self, piece, few, many):
        """Check a piece by its places, the next ones first, among fewer and more copies."""
        self.check_counts(piece, few, many)
        self.assertEqual(is_empty(piece), not few)
        near = "".join(row[1] for row in shared_beginning(few, many, 3))
        self.assertEqual(walked_letters(piece, 3), near)

    def check_counts(self, piece, few, many):
        """Check the numbers of letters by those among fewer and more copies of endless words."""
        for sign in SIGNS:
            counts = [[letter for _, letter in rows].count(sign) for rows in (few, many)]
            expected = counts[0] if counts[0] == counts[1] else None
            self.assertEqual(letter_count(piece, sign), expected)

    def test_the_pieces_joined_are_the_word(self):
        for word in (MIXED, *some_words(3)[::5]):
            for address, _ in some_places(word, 2):
                ahead, letter, behind = cut(word, address)
                whole = joined(ahead, ("letter", letter), behind)
                for sign in SIGNS:
                    self.assertEqual(letter_count(whole, sign), letter_count(word, sign))
                self.assertEqual(walked_letters(whole, 15), walked_letters(word, 15))
                self.assertEqual(walked_letters(mirror(whole), 15),
                                 walked_letters(mirror(word), 15))

    def test_a_piece_can_be_cut_again_and_again(self):
        word = nested(join(A, B), 18)
        for number in range(30):
            ahead, letter, word = cut(word, first_place(word))
            self.assertEqual((length(ahead), letter), (0, "ab"[number % 2]))
        self.assertIsNone(length(word))

    def test_20_levels(self):
        ahead, letter, behind = cut(nested(A, 19), (MOST,) * 19)
        self.assertEqual((length(ahead), letter, length(behind)), (None, "a", None))
        ahead, _, _ = cut(nested(A, 19), (0,) * 18 + (MOST,))
        self.assertEqual(length(ahead), MOST)
        word = times(times(times(A, MOST), MOST), MOST)
        ahead, _, behind = cut(word, (5, 6, 7))
        self.assertEqual(length(ahead), 5 * MOST ** 2 + 6 * MOST + 7)
        self.assertEqual(length(behind), MOST ** 3 - length(ahead) - 1)

    def test_by_name(self):
        self.assertEqual(cut(address=(1,), word=join(A, B))[1], "b")


class Ends(unittest.TestCase):
    """first_place and last_place."""

    def check(self, word, first, last):
        with self.subTest(word):
            self.assertEqual((first_place(word), last_place(word)), (first, last))

    def test_each_kind_of_node(self):
        self.check(A, (), ())
        self.check(join(A, B, C), (0,), (2,))
        self.check(times(A, 1), (0,), (0,))
        self.check(times(A, 7), (0,), (6,))
        self.check(times(A, MOST), (0,), (MOST - 1,))
        self.check(right(A), (0,), None)
        self.check(left(A), None, (0,))
        self.check(right(join(A, B)), (0, 0), None)
        self.check(left(join(A, B)), None, (0, 1))
        self.check(MIXED, (0,), (4,))

    def test_within_one_another(self):
        self.check(times(times(join(A, B), MOST), 3), (0, 0, 0), (2, MOST - 1, 1))
        self.check(right(left(A)), None, None)
        self.check(left(right(A)), None, None)
        self.check(right(right(A)), (0, 0), None)
        self.check(left(left(A)), None, (0, 0))
        self.check(times(right(A), 4), (0, 0), None)
        self.check(times(left(A), 4), None, (3, 0))
        self.check(right(times(A, 3)), (0, 0), None)
        self.check(join(right(A), left(B)), (0, 0), (1, 0))
        self.check(times(join(right(A), left(B)), MOST), (0, 0, 0), (MOST - 1, 1, 0))
        self.check(right(join(B, left(A))), (0, 0), None)
        self.check(left(join(right(A), B)), None, (0, 1))

    def test_no_place_at_all(self):
        for word in PLACELESS:
            self.check(word, None, None)

    def test_endless_copies_in_front_of_a_place(self):
        self.check(join(left(A), B), None, (1,))
        self.check(join(A, right(B)), (0,), None)
        self.check(join(left(A), right(B)), None, None)
        self.check(times(join(left(A), B), 2), None, (1, 1))
        self.check(join(join(EMPTY, left(A)), B, join(right(C), EMPTY)), None, None)

    def test_behind_parts_without_places(self):
        self.check(join(*NOTHING, A, *NOTHING), (5,), (5,))
        self.check(join(*NOTHING, join(EMPTY, left(A)), *NOTHING, B), None, (11,))
        self.check(join(*NOTHING, right(join(EMPTY, A, EMPTY)), *NOTHING), (5, 0, 1), None)
        self.check(times(join(EMPTY, A, times(B, 0)), MOST), (0, 1), (MOST - 1, 1))
        self.check(left(join(*NOTHING, A, *NOTHING)), None, (0, 5))
        self.check(join(times(left(A), 0), B, times(right(A), 0)), (1,), (1,))

    def test_small_words_place_by_place(self):
        for word in (*some_words(3), *some_words(4)[::13]):
            fewer, more = with_more_copies(word)
            with self.subTest(word):
                self.assertEqual(first_place(word),
                                 fewer[0] if fewer and fewer[0] == more[0] else None)
                self.assertEqual(last_place(word),
                                 fewer[-1] if fewer and fewer[-1] == more[-1] else None)

    def test_20_levels_and_300_nodes(self):
        self.check(nested(A, 19), (0,) * 19, None)
        self.check(nested(A, 19, "left"), None, (0,) * 19)
        self.check(join(*[times(EMPTY, MOST)] * 149, B), (149,), (149,))

    def test_by_name(self):
        self.assertEqual(first_place(word=A), ())
        self.assertEqual(last_place(word=A), ())


class Walk(unittest.TestCase):
    def test_the_example_of_the_document(self):
        self.assertEqual(listed(parse_word("a(bc)>b"), many=4),
                         [(0,), (1, 0, 0), (1, 0, 1), (1, 1, 0)])

    def test_it_is_a_generator(self):
        self.assertTrue(inspect.isgeneratorfunction(walk))
        self.assertTrue(inspect.isgenerator(walk(A)))

    def test_ten_by_default(self):
        self.assertEqual(listed(right(A)), [(at,) for at in range(10)])
        self.assertEqual(listed(times(A, 11)), [(at,) for at in range(10)])
        self.assertEqual(listed(times(A, 10)), [(at,) for at in range(10)])
        self.assertEqual(listed(times(A, 9)), [(at,) for at in range(9)])

    def test_many(self):
        for word in (right(A), times(A, MOST), right(right(A)), times(right(A), 7)):
            for many in (0, 1, 2, 99, 100):
                found = listed(word, many=many)
                self.assertEqual([address[-1] for address in found], list(range(many)))
        self.assertEqual(listed(A, many=0), [])
        self.assertEqual(listed(A, many=1), [()])
        self.assertEqual(listed(join(A, B), many=1), [(0,)])
        self.assertEqual(listed(join(A, B), many=0), [])

    def test_within_a_copy_and_across_copies(self):
        word = times(join(A, times(B, 2)), MOST)
        for many in range(8):
            places = [address for address, _ in some_places(times(word[1], 3), 0)]
            self.assertEqual(listed(word, many=many), places[:many])
        for kind in ("right", "left"):
            self.assertEqual(len(listed(join(word, (kind, C)), many=100)), 100)

    def test_words_with_fewer_places(self):
        self.assertEqual(listed(A), [()])
        self.assertEqual(listed(join(A, EMPTY, times(B, 2))), [(0,), (2, 0), (2, 1)])
        self.assertEqual(listed(times(times(A, 2), 2), many=100),
                         [(0, 0), (0, 1), (1, 0), (1, 1)])

    def test_words_without_places(self):
        for word in PLACELESS:
            for many in (0, 1, 10, 100):
                self.assertEqual(listed(word, many=many), [])

    def test_behind_parts_without_places(self):
        self.assertEqual(listed(join(*NOTHING, A, *NOTHING, B)), [(5,), (11,)])
        self.assertEqual(listed(join(*NOTHING, right(join(EMPTY, A))), many=2),
                         [(5, 0, 1), (5, 1, 1)])
        self.assertEqual(listed(times(join(times(EMPTY, MOST), A), 2)), [(0, 1), (1, 1)])

    def test_nothing_behind_endless_copies(self):
        self.assertEqual(listed(join(right(A), B), many=3), [(0, 0), (0, 1), (0, 2)])
        self.assertEqual(listed(join(A, left(B), C)), [(0,)])
        self.assertEqual(listed(join(left(A), B)), [])
        self.assertEqual(listed(left(A)), [])
        self.assertEqual(listed(left(join(A, B)), many=100), [])
        self.assertEqual(listed(times(join(A, left(B)), MOST)), [(0, 0)])
        self.assertEqual(listed(right(join(A, left(B)))), [(0, 0)])
        self.assertEqual(listed(right(left(A))), [])
        self.assertEqual(listed(join(join(A, left(B)), C)), [(0, 0)])
        self.assertEqual(listed(times(right(A), 5), many=2), [(0, 0), (0, 1)])
        self.assertEqual(listed(times(left(A), 0)), [])
        self.assertEqual(listed(join(times(right(A), 0), B)), [(1,)])

    def test_small_words_place_by_place(self):
        for word in (*some_words(3), *some_words(4)[::13]):
            # With finitely many places before it, a place has as many before it in both.
            fewer, more = with_more_copies(word)
            with self.subTest(word):
                self.assertEqual(listed(word, many=5), shared_beginning(fewer, more, 5))

    def test_two_at_once(self):
        word = join(A, right(B))
        one, other = walk(word, many=3), walk(word)
        self.assertEqual([next(one), next(other), next(other), next(one)],
                         [(0,), (0,), (1, 0), (1, 0)])
        self.assertEqual(list(one), [(1, 1)])
        self.assertEqual(next(other), (1, 1))
        self.assertEqual(next(walk(word)), (0,))

    def test_20_levels(self):
        self.assertEqual(listed(nested(A, 19), many=2), [(0,) * 19, (0,) * 18 + (1,)])
        word = join(A, B)
        for _ in range(18):
            word = times(word, MOST)
        self.assertEqual(len(listed(word, many=100)), 100)
        self.assertEqual(listed(word, many=100)[99], (0,) * 17 + (49, 1))
        word = A
        for _ in range(19):
            word = times(word, 1)
        self.assertEqual(listed(word, many=100), [(0,) * 19])

    def test_many_is_passed_by_name_only(self):
        self.assertRaises(TypeError, walk, A, 5)
        self.assertEqual(listed(many=1, word=join(A, B)), [(0,)])


class General(unittest.TestCase):
    """[2]: arguments are not changed, and equal calls return equal results."""

    def test_equal_calls(self):
        word = copy.deepcopy(MIXED)
        for address, _ in MIXED_PLACES:
            self.assertEqual(cut(word, address), cut(MIXED, address))
            self.assertEqual(letter_at(word, address), letter_at(MIXED, address))
        self.assertEqual((first_place(word), last_place(word), listed(word)),
                         (first_place(MIXED), last_place(MIXED), listed(MIXED)))
        self.assertEqual(word, MIXED)

    def test_addresses_are_tuples(self):
        for address in (first_place(MIXED), last_place(MIXED), *walk(MIXED)):
            self.assertIs(type(address), tuple)

    def test_pieces_are_words(self):
        for address, _ in MIXED_PLACES:
            ahead, _, behind = cut(MIXED, address)
            for piece in (ahead, behind):
                hash(piece)
                self.assertEqual(mirror(mirror(piece)), piece)


if __name__ == "__main__":
    unittest.main()

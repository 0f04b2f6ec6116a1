"""scatterwords/words.py: building, turning round and measuring words."""

import unittest

from helpers import (A, B, C, EMPTY, MOST, is_finite, join, left, nested, right, some_words,
                     spelled, times)
from scatterwords import words
from scatterwords.words import (depth, is_empty, joined, length, letter_count, mirror,
                                node_count, repeated, unmarked)

UP_A = ("letter", "A")
UP_B = ("letter", "B")
UP_C = ("letter", "C")
SIGNS = ("a", "b", "c", "A", "B", "C")

PLACELESS = (
    EMPTY,
    times(A, 0),
    times(right(A), 0),
    times(EMPTY, 0),
    times(EMPTY, 1),
    times(EMPTY, MOST),
    times(times(A, 0), MOST),
    right(EMPTY),
    left(EMPTY),
    right(times(A, 0)),
    left(times(right(A), 0)),
    right(left(EMPTY)),
    left(right(right(EMPTY))),
    times(right(EMPTY), MOST),
    join(EMPTY, EMPTY),
    join(EMPTY, times(A, 0), right(EMPTY)),
    right(join(EMPTY, left(times(B, 0)))),
    join(join(EMPTY, EMPTY), left(join(EMPTY, EMPTY))),
)
WITH_PLACES = (
    A,
    UP_C,
    times(A, 1),
    times(A, MOST),
    right(A),
    left(UP_A),
    join(EMPTY, A),
    join(EMPTY, times(B, 0), left(EMPTY), C),
    right(join(EMPTY, A)),
    times(join(right(EMPTY), left(B)), 2),
)


class Constants(unittest.TestCase):
    def test_values(self):
        self.assertEqual(words.LETTERS, "abc")
        self.assertEqual(words.MARKED, ("A", "B", "C"))
        self.assertEqual(words.MAX_COPIES, 10 ** 30)
        self.assertEqual(words.EMPTY, ("empty",))
        self.assertIs(type(words.MARKED), tuple)


class Joined(unittest.TestCase):
    def test_nothing_is_the_empty_word(self):
        self.assertEqual(joined(), EMPTY)

    def test_one_word_is_itself(self):
        for word in (EMPTY, A, UP_B, join(A, B), times(A, 3), right(EMPTY)):
            self.assertEqual(joined(word), word)

    def test_several_words_are_a_join(self):
        self.assertEqual(joined(A, B), ("join", (A, B)))
        self.assertEqual(joined(A, A, UP_C, right(B)), ("join", (A, A, UP_C, right(B))))

    def test_a_join_among_them_stays_a_part(self):
        self.assertEqual(joined(join(A, B), C), ("join", (join(A, B), C)))

    def test_empty_words_are_left_out(self):
        self.assertEqual(joined(EMPTY, EMPTY), EMPTY)
        self.assertEqual(joined(EMPTY, A, EMPTY), A)
        self.assertEqual(joined(A, EMPTY, B), ("join", (A, B)))

    def test_other_words_without_places_stay(self):
        self.assertEqual(joined(times(A, 0), B), ("join", (times(A, 0), B)))
        self.assertEqual(joined(EMPTY, right(EMPTY)), right(EMPTY))
        self.assertEqual(joined(join(EMPTY, EMPTY), A), ("join", (join(EMPTY, EMPTY), A)))


class Repeated(unittest.TestCase):
    def test_trees(self):
        for word in (A, UP_A, EMPTY, join(A, B), times(A, 2), left(A), times(A, 0)):
            with self.subTest(word):
                self.assertEqual(repeated(word, 0), EMPTY)
                self.assertEqual(repeated(word, 1), word)
                self.assertEqual(repeated(word, 2), ("times", word, 2))
                self.assertEqual(repeated(word, MOST), ("times", word, MOST))

    def test_by_name(self):
        self.assertEqual(repeated(many=3, word=A), ("times", A, 3))


class Mirror(unittest.TestCase):
    def test_trees(self):
        rows = (
            (EMPTY, EMPTY),
            (A, A),
            (UP_B, UP_B),
            (join(A, B, UP_C), join(UP_C, B, A)),
            (times(join(A, B), MOST), times(join(B, A), MOST)),
            (times(A, 0), times(A, 0)),
            (times(A, 1), times(A, 1)),
            (right(A), left(A)),
            (left(A), right(A)),
            (right(left(join(A, B))), left(right(join(B, A)))),
            (join(right(join(A, B)), EMPTY, times(left(C), 2)),
             join(times(right(C), 2), EMPTY, left(join(B, A)))),
            (join(join(A, B), C), join(C, join(B, A))),
        )
        for word, expected in rows:
            with self.subTest(word):
                self.assertEqual(mirror(word), expected)

    def test_twice_is_the_word_itself(self):
        for word in some_words(3):
            self.assertEqual(mirror(mirror(word)), word)

    def test_reverses_the_places(self):
        for word in some_words(3):
            if is_finite(word):
                self.assertEqual(spelled(mirror(word)), spelled(word)[::-1])

    def test_join_is_a_tuple_again(self):
        self.assertIs(type(mirror(join(A, B))[1]), tuple)


class Unmarked(unittest.TestCase):
    def test_trees(self):
        rows = (
            (EMPTY, EMPTY),
            (A, A),
            (UP_A, A),
            (UP_B, B),
            (UP_C, C),
            (join(UP_A, B, UP_C), join(A, B, C)),
            (join(EMPTY, UP_A), join(EMPTY, A)),
            (join(join(UP_A, UP_A), EMPTY), join(join(A, A), EMPTY)),
            (times(UP_A, 0), times(A, 0)),
            (times(UP_A, 1), times(A, 1)),
            (times(join(UP_A, C), MOST), times(join(A, C), MOST)),
            (right(left(UP_B)), right(left(B))),
            (left(right(UP_B)), left(right(B))),
        )
        for word, expected in rows:
            with self.subTest(word):
                self.assertEqual(unmarked(word), expected)

    def test_words_without_marks_stay(self):
        for word in (join(A, right(B)), times(EMPTY, 5), left(join(A, EMPTY, B))):
            self.assertEqual(unmarked(word), word)


class IsEmpty(unittest.TestCase):
    def test_words_without_places(self):
        for word in PLACELESS:
            with self.subTest(word):
                self.assertIs(is_empty(word), True)

    def test_words_with_places(self):
        for word in WITH_PLACES:
            with self.subTest(word):
                self.assertIs(is_empty(word), False)


class Counting(unittest.TestCase):
    def check(self, word, counts, total):
        """Check the numbers of all letters (those not given are 0) and the length."""
        for sign in SIGNS:
            with self.subTest(word=word, sign=sign):
                self.assertEqual(letter_count(word, sign), counts.get(sign, 0))
        self.assertEqual(length(word), total)

    def test_letters_and_joins(self):
        self.check(EMPTY, {}, 0)
        self.check(B, {"b": 1}, 1)
        self.check(UP_B, {"B": 1}, 1)
        self.check(join(A, B, A, UP_A), {"a": 2, "b": 1, "A": 1}, 4)
        self.check(join(join(A, EMPTY), join(A, C)), {"a": 2, "c": 1}, 3)

    def test_copies(self):
        self.check(times(join(A, UP_B), 0), {}, 0)
        self.check(times(join(A, UP_B), 1), {"a": 1, "B": 1}, 2)
        self.check(times(join(A, UP_B, A), MOST), {"a": 2 * MOST, "B": MOST}, 3 * MOST)
        self.check(times(times(A, MOST), MOST), {"a": MOST ** 2}, MOST ** 2)
        self.check(times(times(A, MOST), 0), {}, 0)

    def test_endless_copies(self):
        self.check(right(join(A, B)), {"a": None, "b": None}, None)
        self.check(left(UP_C), {"C": None}, None)
        self.check(join(right(A), B, left(C)), {"a": None, "b": 1, "c": None}, None)
        self.check(right(left(right(A))), {"a": None}, None)

    def test_endless_copies_within_copies(self):
        self.check(times(right(A), MOST), {"a": None}, None)
        self.check(times(right(A), 1), {"a": None}, None)
        self.check(times(right(A), 0), {}, 0)
        self.check(right(times(A, MOST)), {"a": None}, None)
        self.check(left(times(A, 0)), {}, 0)
        self.check(left(times(right(B), 0)), {}, 0)
        self.check(join(times(left(A), 0), times(B, 7)), {"b": 7}, 7)
        self.check(times(join(right(A), B), MOST), {"a": None, "b": MOST}, None)

    def test_words_without_places(self):
        for word in PLACELESS:
            self.check(word, {}, 0)

    def test_zero_is_no_number_of_endless_copies(self):
        self.assertIs(length(right(EMPTY)), 0)
        self.assertIsNone(length(right(A)))
        self.assertIs(letter_count(right(A), "b"), 0)

    def test_finite_words_place_by_place(self):
        for word in some_words(3):
            if is_finite(word):
                letters = spelled(word)
                self.assertEqual(length(word), len(letters))
                for sign in SIGNS:
                    self.assertEqual(letter_count(word, sign), letters.count(sign))

    def test_length_is_the_sum_of_all_letters(self):
        for word in some_words(3):
            counts = [letter_count(word, sign) for sign in SIGNS]
            self.assertEqual(length(word), None if None in counts else sum(counts))

    def test_by_name(self):
        self.assertEqual(letter_count(letter="b", word=join(A, B)), 1)


class Trees(unittest.TestCase):
    def test_depth_and_node_count(self):
        rows = (
            (EMPTY, 1, 1),
            (A, 1, 1),
            (UP_A, 1, 1),
            (("name", "oak"), 1, 1),
            (join(A, B), 2, 3),
            (join(A, EMPTY, B), 2, 4),
            (times(A, 0), 2, 2),
            (times(A, MOST), 2, 2),
            (right(EMPTY), 2, 2),
            (left(A), 2, 2),
            (right(left(times(A, 1))), 4, 4),
            (join(A, right(join(B, C)), join(A, A)), 4, 9),
            (join(right(right(A)), B), 4, 5),
            (join(B, right(right(A))), 4, 5),
        )
        for word, levels, nodes in rows:
            with self.subTest(word):
                self.assertEqual(depth(word), levels)
                self.assertEqual(node_count(word), nodes)

    def test_the_same_part_twice_counts_twice(self):
        part = join(A, B)
        self.assertEqual(node_count(join(part, part)), 7)


class LargeWords(unittest.TestCase):
    """[11]: up to 10 ** 30 copies within copies, 300 nodes, 20 levels."""

    def test_copies_within_copies_on_20_levels(self):
        word = join(UP_A, B)
        for _ in range(18):
            word = times(word, MOST)
        self.assertEqual(depth(word), 20)
        self.assertEqual(node_count(word), 21)
        self.assertEqual(letter_count(word, "A"), MOST ** 18)
        self.assertEqual(length(word), 2 * MOST ** 18)
        self.assertFalse(is_empty(word))
        self.assertEqual(length(mirror(word)), 2 * MOST ** 18)
        self.assertEqual(letter_count(unmarked(word), "a"), MOST ** 18)

    def test_endless_copies_on_20_levels(self):
        for kind, other in (("right", "left"), ("left", "right")):
            word = nested(A, 19, kind)
            self.assertEqual(depth(word), 20)
            self.assertIsNone(length(word))
            self.assertEqual(mirror(word), nested(A, 19, other))
            self.assertTrue(is_empty(nested(times(A, 0), 18, kind)))
            self.assertEqual(length(nested(EMPTY, 19, kind)), 0)

    def test_300_nodes(self):
        word = join(*[times(A, MOST) for _ in range(149)], B)
        self.assertEqual(node_count(word), 300)
        self.assertEqual(length(word), 149 * MOST + 1)
        self.assertEqual(mirror(word)[1][0], B)

    def test_trees_of_whole_endless_words_in_copies(self):
        word = times(join(left(A), times(right(B), MOST), C), MOST)
        self.assertEqual(letter_count(word, "c"), MOST)
        self.assertIsNone(length(word))


class General(unittest.TestCase):
    """[2]: equal calls return equal results."""

    def test_equal_calls(self):
        word = join(right(join(UP_A, EMPTY)), times(B, 2))
        same = join(right(join(("letter", "A"), EMPTY)), times(("letter", "b"), 2))
        for act in (mirror, unmarked, depth, node_count, length, is_empty, joined):
            self.assertEqual(act(word), act(same))
            self.assertEqual(act(word), act(word))
        self.assertEqual(word, same)


if __name__ == "__main__":
    unittest.main()

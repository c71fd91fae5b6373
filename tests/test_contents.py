"""1.1: contents."""

import unittest

from tests import naive
from tests.things import C, D, LETTERS, P, T, U, odd_things, random_word, sames, seeded
from wholewalks.contents import is_content, least_content, same_signs, sign
from wholewalks.errors import NoContent, NoContents, NoPlace
from wholewalks.running import events

GOOD = [("", ""), ("a", ""), ("", "a"), ("abc", "cab"), ("ab", "bb"), ("a" * 60, "b" * 60), ("c", "")]
BAD = [["a", ""], ("a",), ("a", "", ""), ("a", None), (None, ""), ("d", ""), ("a", "d"), ("A", ""), ("a", "B"),
       (b"a", b""), ("a", ["b"]), (["a"], "b"), (("a",), ""), ("a b", ""), ("a", "b\n"), "ab", "a", None, True, 0, (),
       (0, 0), {"head": "a"}, ("", "end")]


class IsContentTest(unittest.TestCase):

    def test_contents(self):
        for thing in GOOD:
            self.assertIs(is_content(thing), True, thing)

    def test_other_things(self):
        for thing in BAD + odd_things():
            self.assertIs(is_content(thing), False, repr(thing)[:60])

    def test_longer_ones_are_contents_all_the_same(self):
        self.assertIs(is_content(("abc" * 100, "a" * 5000)), True)


class SignTest(unittest.TestCase):

    def test_a_content_that_ends(self):
        self.assertEqual([sign(("ab", ""), place) for place in range(5)], ["a", "b", "end", "end", "end"])
        self.assertEqual(sign(("", ""), 0), "end")
        self.assertEqual(sign(("a" * 60, ""), 59), "a")
        self.assertEqual(sign(("a" * 60, ""), 60), "end")

    def test_a_content_that_comes_round(self):
        self.assertEqual("".join([sign(("ab", "cca"), place) for place in range(11)]), "abccaccacca")
        self.assertEqual("".join([sign(("", "ab"), place) for place in range(5)]), "ababa")

    def test_far_places(self):
        self.assertEqual(sign(("abc", ""), 10 ** 39), "end")
        self.assertEqual(sign(("abc", "ab"), 3 + 10 ** 30), "a")
        self.assertEqual(sign(("abc", "ab"), 4 + 10 ** 30), "b")
        ring = random_word(seeded(1), 3, 0) + "abcabbbca" * 6
        far = 7 * 10 ** 38 + 123456789
        self.assertEqual(sign(("a", ring), far), ring[(far - 1) % 54])

    def test_as_told(self):
        rng = seeded(2)
        for _ in range(300):
            content = (random_word(rng, 3, 6), random_word(rng, 3, 5))
            for place in range(20):
                self.assertEqual(sign(content, place), naive.sign(content, place))

    def test_wrong_contents_come_first(self):
        for thing in BAD + odd_things():
            for place in (0, -1, None):
                with self.assertRaises(NoContent):
                    sign(thing, place)

    def test_wrong_places(self):
        for place in [-1, -(10 ** 39), True, False, None, "0", "a", (0,), [0], b"", {}, ("", ""), T, ("a", "b")]:
            with self.assertRaises(NoPlace):
                sign(("a", "b"), place)
        for place in odd_things():
            if not isinstance(place, int) or isinstance(place, bool) or place < 0:
                with self.assertRaises(NoPlace):
                    sign(("a", ""), place)


class LeastContentTest(unittest.TestCase):

    def test_e12(self):
        self.assertEqual(least_content(("ab", "bb")), ("a", "b"))

    def test_by_hand(self):
        told = {("", ""): ("", ""), ("abab", ""): ("abab", ""), ("", "abab"): ("", "ab"), ("b", "ab"): ("", "ba"),
                ("ca", "ba"): ("c", "ab"), ("aaa", "aa"): ("", "a"), ("aba", "aba"): ("", "aba"),
                ("ab", "ba"): ("ab", "ba"), ("", "aab"): ("", "aab"), ("cc", "abcabc"): ("c", "cab")}
        for content, least in told.items():
            self.assertEqual(least_content(content), least, content)

    def test_ways_of_writing(self):
        rng = seeded(3)
        for _ in range(400):
            content = (random_word(rng, 3, 5), random_word(rng, 3, 5))
            least = least_content(content)
            for other in sames(content):
                self.assertEqual(least_content(other), least)
                self.assertIs(same_signs(content, other), True)
                self.assertIs(same_signs(other, content), True)

    def test_nothing_is_shorter(self):
        rng = seeded(4)
        for _ in range(60):
            content = (random_word(rng, 2, 4), random_word(rng, 2, 4))
            text = [naive.sign(content, place) for place in range(24)]
            fits = []
            for head in range(6):
                for ring in range(5):
                    again = ring > 0 and all(text[at] == text[at + ring] for at in range(head, 24 - ring))
                    if "end" in text:
                        again = ring == 0 and text[head:] == ["end"] * (24 - head) and "end" not in text[:head]
                    if again:
                        fits.append((ring, head))
            ring, head = min(fits)
            self.assertEqual(least_content(content), ("".join(text[:head]), "".join(text[head:head + ring])))

    def test_long_ones(self):
        ring = "ab" * 29 + "ac"
        self.assertEqual(least_content((ring, ring)), ("", ring))
        self.assertEqual(least_content((ring[30:], ring)), ("", ring[30:] + ring[:30]))
        self.assertEqual(least_content(("c" * 60, "c" * 60)), ("", "c"))
        self.assertEqual(least_content(("c" * 59 + "a", "c" * 60)), ("c" * 59 + "a", "c"))
        self.assertEqual(least_content(("", "abc" * 20)), ("", "abc"))
        self.assertEqual(least_content(("a" * 60, "")), ("a" * 60, ""))

    def test_wrong_contents(self):
        for thing in BAD + odd_things():
            with self.assertRaises(NoContent):
                least_content(thing)


class SameSignsTest(unittest.TestCase):

    def test_flags(self):
        self.assertIs(same_signs(("a", "ba"), ("ab", "ab")), True)
        self.assertIs(same_signs(("a", ""), ("", "a")), False)
        self.assertIs(same_signs(("a", ""), ("a", "")), True)
        self.assertIs(same_signs(("", ""), ("", "")), True)
        self.assertIs(same_signs(("a", ""), ("aa", "")), False)
        self.assertIs(same_signs(("", "a" * 59 + "b"), ("", "a" * 60)), False)
        self.assertIs(same_signs(("", "a" * 59), ("a" * 60, "a" * 60)), True)

    def test_as_the_signs_are(self):
        rng = seeded(5)
        for _ in range(500):
            one = (random_word(rng, 2, 3), random_word(rng, 2, 2))
            other = (random_word(rng, 2, 3), random_word(rng, 2, 2))
            same = all(naive.sign(one, place) == naive.sign(other, place) for place in range(20))
            self.assertIs(same_signs(one, other), same)

    def test_wrong_contents(self):
        for thing in BAD + odd_things():
            with self.assertRaises(NoContent):
                same_signs(thing, ("a", ""))
            with self.assertRaises(NoContent):
                same_signs(("a", ""), thing)


class ContentsTest(unittest.TestCase):

    def test_contents_of_a_plan(self):
        for contents in [C, D, (("", ""), ("", ""))]:
            self.assertIsInstance(events(T, contents, 3), list)
        wrong = [(), (("", ""),), (("", ""),) * 3, list(C), (("b", ""), ("a", "")), (("a", ""), ("a", "b")),
                 (["a", ""], ("a", "")), (("a", ""), ["a", ""]), ("a", "a"), (("a", ""), None), (("a", ""), P)]
        for contents in wrong + odd_things():
            with self.assertRaises(NoContents):
                events(T, contents, 3)
        self.assertEqual(len(events(U, (("b", ""), ("", "b")), 9)), 9)
        with self.assertRaises(NoContents):
            events(U, (("b", ""), ("", "c")), 9)

    def test_letters_are_these(self):
        self.assertEqual(LETTERS, "abc")
        self.assertIs(is_content((LETTERS, LETTERS)), True)

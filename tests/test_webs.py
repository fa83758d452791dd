"""Webs: what makes them, their texts, webs with other ties, members and their ends."""

import random
import unittest

from cornersure.errors import (
    InvalidPlaces, InvalidStretch, InvalidText, InvalidTie, InvalidTies, NotAWeb, NotJoined)
from cornersure.webs import Web, ends, is_web_member
from tests.calls import wrong_fractions, wrong_stretches
from tests.drawn import any_fraction, any_web
from tests.samples import Case, Plain, Refusing, crop, odd_values
from tests.test_times import wrong_letters
from tests.texts import with_numbers_changed, with_spaces_changed, with_words_changed

TIES = (("ab", (1, 3)), ("ac", (2, 2)), ("bc", (1, 1)), ("bd", (3, 6)), ("cd", (2, 5)))
TEXT = "abcd\nab 1 3\nac 2 2\nbc 1 1\nbd 3 6\ncd 2 5"
# All pairs of five places: no web can have more ties.
ALL_TIES = tuple((pair, (0, 1000)) for pair in "ab ac ad ae bc bd be cd ce de".split())


def yard():
    return Web("abcd", TIES)


def wrong_pairs(good):
    return [*odd_values(), good[::-1], good + "d", good[:1], good.upper(), (good,), [good], tuple(good), good.encode(),
            "aa", "az", "a ", {good: 1}]


def wrong_ties(good):
    pair, stretch = good
    wrong = [*odd_values(), list(good), (pair,), (*good, 1), good[::-1], (good,), pair, (pair, *stretch)]
    wrong += [(value, stretch) for value in wrong_pairs(pair)]
    return wrong + [(pair, value) for value in wrong_stretches(1000, 0)]


class MakingTest(Case):
    def test_what_was_passed_comes_back(self):
        web = yard()
        self.assertEqual((web.places, web.ties, web.text, str(web), len(web)), ("abcd", TIES, TEXT, TEXT, 5))
        self.assertEqual([value.__class__ for value in (web.places, web.ties, web.text)], [str, tuple, str])
        self.assertEqual(Web(ties=TIES, places="abcd"), web)

    def test_least_and_greatest_webs(self):
        least = Web("az", (("az", (0, 0)),))
        self.assertEqual((least.text, len(least)), ("az\naz 0 0", 1))
        self.assertEqual(len(Web("abcde", ALL_TIES)), 10)
        six = Web("abcdef", tuple((pair, (1000, 1000)) for pair in "ab bc cd de ef".split()))
        self.assertEqual((len(six), Web.told(six.text)), (5, six))

    def test_webs_are_true_and_do_not_change(self):
        self.assertIs(bool(yard()), True)
        web = yard()
        for name in ("places", "ties", "text"):
            with self.assertRaises(AttributeError):
                setattr(web, name, ())
        self.assertEqual(web, yard())

    def test_equality(self):
        self.assertTrue(yard() == Web("abcd", TIES))
        self.assertFalse(yard() != Web("abcd", TIES))
        others = [yard().without("ac"), yard().changed("ab", (1, 2)), yard().changed("ab", (0, 3)),
                  Web("abce", tuple((pair.replace("d", "e"), stretch) for pair, stretch in TIES))]
        for value in [*others, *odd_values(), TEXT, TIES, ("abcd", TIES), (yard(),), crop()]:
            self.assertIs(yard() == value, False)
            self.assertIs(yard() != value, True)


class WrongWebTest(Case):
    def test_places(self):
        for value in wrong_letters():
            self.assert_given(InvalidPlaces, value, Web, value, TIES)
            self.assert_given(InvalidPlaces, value, Web, value, None)
            self.assert_given(InvalidPlaces, value, Web, ties=(), places=value)

    def test_ties_that_are_no_tuple(self):
        for value in [*odd_values(), list(TIES), dict(TIES), TEXT]:
            if not isinstance(value, tuple):
                self.assert_index(InvalidTies, None, Web, "abcd", value)

    def test_the_first_that_is_no_tie(self):
        for tie in wrong_ties(TIES[0]):
            self.assert_index(InvalidTies, 0, Web, "abcd", (tie, *TIES))
            self.assert_index(InvalidTies, 3, Web, "abcd", (*TIES[:3], tie, TIES[3], tie))
        self.assert_index(InvalidTies, 3, Web, "abc", TIES)
        for tie in (("ea", (1, 1)), ("ef", (1, 1)), ("de", (1, 1))):
            self.assert_index(InvalidTies, 5, Web, "abcd", (*TIES, tie))

    def test_pairs_that_do_not_ascend(self):
        for at in range(1, 5):
            self.assert_index(InvalidTies, at, Web, "abcd", (*TIES[:at], TIES[at - 1], *TIES[at:]))
            swapped = (*TIES[:at - 1], TIES[at], TIES[at - 1], *TIES[at + 1:])
            self.assert_index(InvalidTies, at, Web, "abcd", swapped)
        self.assert_index(InvalidTies, 1, Web, "abcd", (TIES[0], (TIES[0][0], (7, 8)), None))

    def test_an_eleventh_one(self):
        places = "abcdef"
        for tie in (("af", (1, 1)), ("ef", (1, 1)), None, Refusing(), Plain()):
            self.assert_index(InvalidTies, 10, Web, places, (*ALL_TIES, tie))
        self.assert_index(InvalidTies, 1, Web, places, (ALL_TIES[0], None, *ALL_TIES))

    def test_the_first_place_to_which_one_does_not_come(self):
        for places, pairs, place in (("abc", "ab", "c"), ("abc", "ac", "b"), ("abc", "bc", "b"), ("abc", "", "b"),
                                     ("abcd", "ad bc", "b"), ("abcdef", "af bc cd de", "b"), ("abcd", "ac cd", "b"),
                                     ("abcdef", "ab bd ce df", "c"), ("az", "", "z"), ("abcdef", "af bf cf de", "d")):
            ties = tuple((pair, (1, 2)) for pair in pairs.split())
            self.assert_given_equal(NotJoined, place, Web, places, ties)
        self.assert_index(InvalidTies, 1, Web, "abcd", (("ab", (1, 2)), ("bc", (2, 1))))
        self.assertEqual(len(Web("abcdef", tuple((pair, (0, 0)) for pair in "af be bf ce df".split()))), 5)


class TextTest(Case):
    def test_the_text_tells_an_equal_web(self):
        source = random.Random(111)
        for _ in range(100):
            web = any_web(source)
            after = Web.told(web.text)
            self.assertEqual(after, web)
            self.assertEqual((after.places, after.ties, str(after)), (web.places, web.ties, str(web)))
        self.assertEqual(Web.told(text=TEXT).ties[4][1][1].__class__, int)

    def test_what_is_no_text(self):
        wrong = [*odd_values(), TEXT.encode(), [TEXT], TEXT.split("\n"), yard(), "ab", "a", "ab\n", "\nab", "ab\nba 1 2"]
        wrong += ["ab\nab 2 1", "ab\nab -1 0", "ab\nab 0 1001", "ab\na b 1 2", "ab\nac 1 2", "ab ab 1 2", "ab\nab 1"]
        wrong += ["ab\nab 1 2 3", "ab\nab 1 2 3 4", "abc\nab 1 2", "abc\nac 1 2", "ab\nab 1 2\nab 1 2", "ba\nab 1 2"]
        wrong += ["abc\nbc 1 1\nab 1 1", "abc\nab 1 1\nac 1 1\nab 1 1", "abcdefg\nab 1 1"]
        wrong += [*with_spaces_changed(TEXT), *with_words_changed(TEXT), *with_numbers_changed(TEXT)]
        lines = TEXT.split("\n")
        wrong += ["\n".join([*lines[:at], line, *lines[at:]]) for at, line in enumerate(lines)]
        wrong += ["\n".join([*lines[:at], lines[at + 1], lines[at], *lines[at + 2:]]) for at in range(1, 5)]
        for text in wrong:
            self.assert_given(InvalidText, text, Web.told, text)


class OtherTiesTest(Case):
    def test_stretch(self):
        for pair, stretch in TIES:
            self.assertEqual(yard().stretch(pair), stretch)
            self.assertEqual(yard().stretch(pair=pair), stretch)
        for pair in [*wrong_pairs("ab"), "ad"]:
            self.assert_given(InvalidTie, pair, yard().stretch, pair)

    def test_changed(self):
        web = yard()
        for pair, _ in TIES:
            for stretch in ((0, 0), (0, 1000), (1000, 1000), (7, 8)):
                after = web.changed(pair, stretch)
                self.assertEqual(dict(after.ties), {**dict(TIES), pair: stretch})
                self.assertEqual((after.places, web), ("abcd", yard()))
        self.assertEqual(web.changed(stretch=(4, 4), pair="bd"), web.changed("bd", (4, 4)))
        for pair in wrong_pairs("ab"):
            self.assert_given(InvalidTie, pair, web.changed, pair, (1, 2))
            self.assert_given(InvalidTie, pair, web.changed, pair, None)
        for stretch in wrong_stretches(1000, 0):
            self.assert_given(InvalidStretch, stretch, web.changed, "cd", stretch)

    def test_without(self):
        web = yard()
        for pair, _ in TIES:
            after = web.without(pair)
            self.assertEqual((after.places, after.ties), ("abcd", tuple(tie for tie in TIES if tie[0] != pair)))
        self.assertEqual((web, web.without(pair="ab")), (yard(), web.without("ab")))
        chain = Web("abc", (("ac", (1, 1)), ("bc", (2, 2))))
        for pair in wrong_pairs("ac"):
            self.assert_given(InvalidTie, pair, chain.without, pair)
        self.assert_given_equal(NotJoined, "b", chain.without, "ac")
        self.assert_given_equal(NotJoined, "b", chain.without, "bc")
        self.assert_given_equal(NotJoined, "b", Web("ab", (("ab", (1, 1)),)).without, "ab")


class WebMemberTest(Case):
    def test_numbers_between_the_ends(self):
        source = random.Random(112)
        for _ in range(80):
            web = any_web(source)
            member = tuple(any_fraction(source, stretch) for _, stretch in web.ties)
            self.assertIs(is_web_member(web, member), True)
            at = source.randrange(len(web))
            low, high = web.ties[at][1]
            for number, own in (((low, 1), True), ((high, 1), True), ((low * 9 - 1, 9), False), ((high * 9 + 1, 9), False),
                                ((low - 1, 1), False), ((high + 1, 1), False)):
                self.assertIs(is_web_member(web, (*member[:at], number, *member[at + 1:])), own)

    def test_values_of_many_kinds(self):
        low = ((1, 1), (2, 1), (1, 1), (3, 1), (2, 1))
        wrong = [*odd_values(), list(low), low[:4], (*low, (1, 1)), (low,), dict(enumerate(low)), TEXT, yard(), TIES]
        wrong += [(part, *low[1:]) for part in wrong_fractions()] + [(*low[:4], part) for part in wrong_fractions()]
        for value in wrong:
            self.assertIs(is_web_member(yard(), value), False)
        self.assertIs(is_web_member(value=low, web=yard()), True)

    def test_what_is_no_web(self):
        for web in [*odd_values(), TEXT, crop(), ("abcd", TIES), [yard()], (yard(),)]:
            self.assert_given(NotAWeb, web, is_web_member, web, None)
            self.assert_given(NotAWeb, web, ends, web, None)


class EndsTest(Case):
    def test_all_lots_of_ties(self):
        web = yard()
        for marks in range(32):
            low = tuple(pair for at, (pair, _) in enumerate(TIES) if marks >> at & 1)
            own = tuple((stretch[pair not in low], 1) for pair, stretch in TIES)
            self.assertEqual(ends(web, low), own)
            self.assertIs(is_web_member(web, ends(web, low)), True)
        self.assertEqual(ends(low=("ab",), web=web), ends(web, ("ab",)))
        self.assertEqual({part.__class__ for pair in ends(web, ()) for part in pair}, {int})

    def test_errors_in_their_order(self):
        web = yard()
        for low in [*odd_values(), ["ab"], "ab", {"ab": 1}]:
            if not isinstance(low, tuple):
                self.assert_given(InvalidTie, low, ends, web, low)
        for pair in wrong_pairs("ab"):
            for low in ((pair,), ("ab", pair), ("bd", "ab", pair), (pair, pair), ("ab", "ab", pair, None)):
                self.assert_given(InvalidTie, pair, ends, web, low)
        for low in (("ab", "ab"), ("bc", "ab"), ("ab", "cd", "bd"), ("cd", "bd", "ab")):
            self.assert_given(InvalidTie, low, ends, web, low)


if __name__ == "__main__":
    unittest.main()

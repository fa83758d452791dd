"""The checker beside an own one, over papers that are right and papers that are nearly so."""

import itertools
import random
import unittest

from cornersure.certificates import certify_each, certify_some_answer
from cornersure.checker import accepts
from cornersure.errors import NotServed, NoTimes
from cornersure.tables import Table
from tests.claims import OPPOSITES, drawn_calls, nearly
from tests.drawn import small_table
from tests.own_checker import WORDS, own_accepts
from tests.samples import Agreeing, Case, Refusing, bar, crop, odd_values
from tests.test_counts import TEXT as COUNTS
from tests.test_counts import poll
from tests.test_times import TEXT as TIMES
from tests.test_times import day
from tests.test_webs import TEXT as WEB
from tests.test_webs import yard

TABLE = "x y\np 1 2 3 5\nq 2 4 1 1\nr 4 9 0 3"
LEAN = "sweet sour\nbay 8 9 0 3\nelm 0 1 8 9\nfig 7 9 7 9"
DIET = "x y\nneed -2 -1 -1 -1\nroom 1 1 0 1"
AIM = ((5, 5), (5, 5))
ZERO, HALF, ONE = (0, 1), (1, 2), (1, 1)

# Right papers by hand: for each word a claim, a paper for it, and papers that are just not right.
BY_HAND = (
    (("safe", str(crop()), (3, 2)), ((3, 4), (1, 4), ZERO), [(ONE, ZERO, ZERO), ((1, 4), (3, 4), ZERO), ((3, 4), (1, 4))]),
    (("unsafe", str(crop()), (3, 2)), (HALF, HALF), [(ONE, ZERO), ((3, 4), (1, 4)), ((1, 2), (1, 2), ZERO)]),
    (("hoped", str(crop()), (17, 5)), ((4, 5), (1, 5), ZERO), [((3, 4), (1, 4), ZERO), (ONE, ZERO, ZERO)]),
    (("unhoped", str(crop()), (17, 5)), ((2, 5), (3, 5)), [(HALF, HALF), (ONE, ZERO)]),
    (("one", DIET, ((-3, 2), (-2, 3))), (HALF, HALF), [(ONE,), (HALF, ZERO)]),
    (("split", "x\np 0 1\nq 1 2", ((1, 1),)), ((ONE,), (HALF,)), [((ZERO,), (ZERO,)), ((ONE,), (ZERO,)), ((ZERO,), (ONE,))]),
    (("each", "x\np 0 1\nq 2 3", ((1, 2),)), ((ZERO, ONE), (ONE, ZERO)), [((ONE, ZERO), (ONE, ZERO)), ((ZERO, ONE),)]),
    (("barred", LEAN, AIM), ((1, 1), ((3, 7), (4, 7))), [((1, 1), (HALF, HALF)), ((1, -1), ((3, 7), (4, 7))), ((1, 1), (ZERO, ZERO))]),
    (("some", LEAN, AIM), (HALF, HALF, ZERO), [(ONE, ZERO, ZERO), (ZERO, ZERO, ONE)]),
    (("none", LEAN, ((0, 1), (0, 1))), ((ONE, ONE), (ZERO, ZERO)), [((ZERO, ZERO), (ONE, ONE)), ((ONE, ZERO), (ZERO, ZERO))]),
    (("costs", "x\np 0 1\nq 2 3", ((1, 2),), (4, 6), (6, 1)), ((ZERO, ONE), (ONE, ZERO)), [((ONE, ZERO), (ONE, ZERO))]),
    (("asks", "x\np 0 1\nq 2 3", ((1, 2),), (4, 6), (5, 1)), ((-1,), (ONE,), (5, 1)), [((-1,), (ONE,), (6, 1)), ((1,), (ONE,), (5, 1))]),
    (("one answer", DIET, ((-4, -3), (5, 5))), (ONE, (3, 1)), [((2, 1), ONE), (ZERO, ZERO), (ONE, (5, 1))]),
    (("barred answer", DIET, ((-4, -4), (-9, -9))), ((((-1, 1), (-1, 1)), (ONE, ONE)), (ONE, ONE)),
     [((((-2, 1), (-1, 1)), (ONE, ONE)), (ONE, ONE)), ((((-1, 1), (-1, 1)), (ONE, ONE)), (ZERO, ZERO)),
      ((((-1, 1), (-1, 1)), (ONE, ONE)), (ONE, (2, 1)))]),
    (("some answer", DIET, ((-4, -3), (5, 5))), ((2, 1), ONE), [(ZERO, ZERO), ((-3, 1), ONE)]),
    (("no answer", "x\np 1 1\nq -1 -1", ((-1, 0), (-1, -1))), ((ONE, ONE), (ONE, ONE)), [((ONE, ONE),), ((ONE, ZERO), (ONE, ONE))]),
    (("times", TIMES), (0, 3, 6, 8), [(1, 4, 7, 9), (0, 2, 5, 8), (0, 3, 6)]),
    (("ring", "abc\na b 2 4\nb c 1 3\na c 8 9"), ((0, 1), (1, 1), (2, -1)), [((0, 1), (1, 1)), ((2, -1), (1, 1), (0, 1)), ()]),
    (("lead", TIMES, "a", "c", 6), ((2, -1),), [((0, 1), (1, 1)), (), ((2, 1),)]),
    (("reached", TIMES, "a", "c", 6), (0, 3, 6, 6), [(0, 4, 7, 7), (0, 2, 5, 5)]),
    (("possible way", WEB, "abd"), (0, 1, 2, 4), [(0, 1, 2, 5), (0, 2, 2, 4), (0, 1, 3, 4)]),
    (("no way", WEB, "bac"), "bc", ["bac", "bdc", "cb", "ba", "ac"]),
    (("sure way", WEB, "bc"), (0, 0, 1, 0), [(0, 0, 2, 0), (0, 1, 1, 0)]),
    (("unsure way", WEB, "acd"), "abd", ["acd", "abcd", "dba", "ab"]),
    (("possible pairing", TABLE, ("p", "q")), ((0, 0, 0), (1, 1)), [((0, 0, 1), (1, 1)), ((0, 0, 0), (1, 2)), ((0, 0), (1, 1))]),
    (("no pairing", TABLE, ("q", "p")), ("p", "q"), [("q", "p"), ("p", "p"), ("p",)]),
    (("sure pairing", "x\np 0 1\nq 1 2", ("p",)), ((0, 0), (1,)), [((1, 0), (1,)), ((0, 1), (1,)), ((0, 0), (0,))]),
    (("unsure pairing", TABLE, ("p", "q")), ("p", "r"), [("p", "q"), ("q", "p")]),
    (("possible tree", WEB, ("ab", "bc", "bd")), (), [((),), (0,), ("ab", "ac")]),
    (("no tree", WEB, ("ab", "ac", "bd")), ("bc", "ac"), [("bc", "ab"), ("ac", "bc"), ("cd", "bd"), ("bc", "bd"), ("bc",)]),
    (("sure tree", "abc\nab 1 2\nbc 0 1\nac 2 3".replace("bc 0 1\nac 2 3", "ac 2 3\nbc 0 1"), ("ab", "bc")), (), [((),), "", 0]),
    (("unsure tree", WEB, ("ac", "bc", "bd")), ("ab", "ac"), [("ac", "ab"), ("ab", "bd"), ("cd", "bc")]),
    (("possible cut", WEB, "a", "d", "abc"), (3, 2, 0, 3, 2), [(3, 2, 0, 3, 3), (2, 2, 0, 2, 2), (3, 2, 1, 4, 1)]),
    (("no cut", WEB, "a", "d", "ac"), "a", ["ac", "ab", "", "abcd", "d"]),
    (("sure cut", WEB, "a", "d", "a"), (3, 2, 0, 3, 2), [(3, 2, 1, 3, 2), (2, 2, 0, 2, 2), (0, 0, 0, 0, 0)]),
    (("unsure cut", WEB, "a", "d", "abc"), "a", ["abc", "ad", "b"]),
    (("served", WEB, "a", ((0, 0), (0, 1), (1, 1), (0, 1))), (1, 2, 0, 0, 1), [(1, 2, 0, 0, 0), (2, 1, 1, 0, 1), (1, 1, 0, 0, 1)]),
    (("not served", WEB, "a", ((0, 0), (0, 1), (1, 1), (0, 2))), "bcd", ["bc", "cdb", "abcd", "", "d"]),
    (("can come", COUNTS, "whole", (2, 1, 1)), (20, 1), [(21, 1), (16, 1), (40, 2), (0, 1)]),
    (("cannot come", COUNTS, "whole", (1, 2, 1)), ("q", "p"), [("p", "q"), ("q", "q"), ("q", "r"), ("r", "q")]),
)

LEVEL = "x y\np 1 1 1 1\nq -1 -1 -1 -1"
EVEN, UNEVEN = (ONE, ONE), (ONE, (2, 1))
# Claims that are not so, with papers that fail in one place alone.
NOT_SO = (
    (("possible pairing", TABLE, ("q", "p")), ((0, 0, 0), (2, 3))),
    (("possible pairing", TABLE, ("r", "q")), ((0, 0, 0), (4, 1))),
    (("sure pairing", TABLE, ("p", "q")), ((0, 0, 0), (2, 1))),
    (("no answer", LEVEL, ((-1, 0), (-1, -1))), (EVEN, EVEN, UNEVEN, EVEN)),
    (("no answer", LEVEL, ((-1, 0), (-1, -1))), (EVEN, UNEVEN, EVEN, EVEN)),
    (("no answer", LEVEL, ((-1, 0), (-1, 0))), (EVEN, EVEN, EVEN, EVEN)),
    (("possible way", WEB, "bac"), (2, 1, 0, 0)),
    (("possible cut", WEB, "a", "d", "ac"), (1, 2, 0, 1, 2)),
    (("possible tree", WEB, ("ab", "ac", "bd")), ()),
    (("sure tree", WEB, ("ac", "bc", "bd")), ()),
)


class ByHandTest(Case):
    def test_papers(self):
        self.assertEqual({claim[0] for claim, _, _ in BY_HAND}, set(WORDS))
        for claim, paper, wrong in BY_HAND:
            with self.subTest(claim=claim[0]):
                self.assertIs(accepts(claim, paper), True)
                self.assertIs(accepts(paper=paper, claim=claim), True)
                self.assertIs(own_accepts(claim, paper), True)
                for other in wrong:
                    self.assertIs(accepts(claim, other), False, other)
                    self.assertIs(own_accepts(claim, other), False, other)

    def test_claims_that_are_not_so(self):
        for claim, paper in NOT_SO:
            self.assertIs(accepts(claim, paper), False, claim)
            self.assertIs(own_accepts(claim, paper), False, claim)
        self.assertIs(accepts(("no answer", LEVEL, ((-1, 0), (-1, -1))), (EVEN,) * 4), True)
        self.assertIs(accepts(("no answer", LEVEL, ((-1, 0), (-1, -1))), (UNEVEN, EVEN, EVEN, EVEN)), True)

    def test_prices_of_all_pairings_of_small_tables(self):
        source, seen = random.Random(303), set()
        for _ in range(40):
            table = small_table(source, 2, source.randint(2, 3), 2)
            for pairing in itertools.permutations(table.names, 2):
                for word, end in (("possible pairing", 0), ("sure pairing", 1)):
                    numbers = [table.stretch(name, column)[end] for name, column in zip(pairing, table.columns)]
                    for first, second in itertools.product(range(3), repeat=2):
                        rows = tuple(dict(zip(pairing, (first, second))).get(name, 0) for name in table.names)
                        paper = rows, (numbers[0] + first, numbers[1] + second)
                        told = accepts((word, str(table), pairing), paper)
                        self.assertIs(told, own_accepts((word, str(table), pairing), paper))
                        seen.add((word, told))
        self.assertEqual(len(seen), 4)

    def test_each_paper_for_each_other_word(self):
        for claim, _, _ in BY_HAND:
            for other, paper, _ in BY_HAND:
                for word in (other[0], OPPOSITES.get(other[0], other[0])):
                    for told in ((word, *claim[1:]), (claim[0], *other[1:])):
                        self.assertEqual(accepts(told, paper), own_accepts(told, paper), (told, paper))

    def test_values_of_any_kind(self):
        every = [*odd_values(), Agreeing(), Refusing(), crop(), bar(), day(), yard(), poll(), "safe", ("safe",), ["safe"]]
        for value in every:
            for claim, paper, _ in BY_HAND:
                self.assertIs(accepts(claim, value), value.__class__ is tuple and value == () == paper)
                self.assertIs(accepts(value, paper), False)
                for at in range(len(claim)):
                    told = (*claim[:at], value, *claim[at + 1:])
                    self.assertIs(accepts(told, paper), own_accepts(told, paper))
                self.assertIs(accepts((*claim, value), paper), False)
                self.assertIs(accepts(list(claim), paper), False)
                if paper.__class__ is tuple:
                    for at in range(len(paper)):
                        told = (*paper[:at], value, *paper[at + 1:])
                        self.assertIs(accepts(claim, told), own_accepts(claim, told))
            for other in every[::5]:
                self.assertIs(accepts(value, other), False)

    def test_texts_of_other_things(self):
        texts = (TABLE, TIMES, WEB, COUNTS, "x\np 0 1", "", "ab")
        for claim, paper, _ in BY_HAND:
            for text in texts:
                told = (claim[0], text, *claim[2:])
                self.assertEqual(accepts(told, paper), own_accepts(told, paper), told)

    def test_a_chain_that_goes_round(self):
        late = "abc\na b 2 4\nb c 1 3\na c 8 9"
        ring = ((0, 1), (1, 1), (2, -1))
        self.assertIs(accepts(("ring", late), ring * 3), True)
        # Without a schedule each number is one that no schedule is below.
        self.assertIs(accepts(("lead", late, "a", "a", 5), ring * 5), True)
        self.assertIs(accepts(("lead", late, "a", "a", 6), ring * 5), False)
        self.assertIs(accepts(("lead", late, "b", "b", 0), ()), True)
        self.assertIs(accepts(("lead", late, "b", "b", -1), ()), True)
        self.assertIs(accepts(("lead", late, "b", "b", 1), ()), False)
        self.assertIs(accepts(("lead", late, "b", "a", -10), ()), False)


class NearlyTest(Case):
    def test_beside_the_own_checker(self):
        source, seen = random.Random(301), {}
        for action, args in drawn_calls(source, 14):
            try:
                told = action(*args)
            except (NotServed, NoTimes):
                continue
            if told is not None:
                claim, paper = told
                seen[claim[0]] = seen.get(claim[0], 0) + 1
                if seen[claim[0]] <= 4:
                    self.assert_alike(source, claim, paper)
        self.assertEqual(set(seen), set(WORDS))

    def assert_alike(self, source, claim, paper):
        others = list(nearly(paper))
        for other in others if len(others) < 400 else source.sample(others, 400):
            self.assertIs(accepts(claim, other), own_accepts(claim, other), (claim, other))
        others = list(nearly(claim))
        for other in others if len(others) < 200 else source.sample(others, 200):
            self.assertIs(accepts(other, paper), own_accepts(other, paper), (other, paper))

    def test_papers_of_other_claims_of_the_word(self):
        """Among many papers of small things there are always some that happen to be right, too."""
        source, papers, right = random.Random(302), {}, 0
        for action, args in drawn_calls(source, 12):
            try:
                told = action(*args)
            except (NotServed, NoTimes):
                continue
            if told is not None:
                papers.setdefault(told[0][0], []).append(told)
        for word, every in papers.items():
            for claim, _ in every[:12]:
                for _, paper in every[:12] + papers.get(OPPOSITES.get(word), [])[:4]:
                    self.assertIs(accepts(claim, paper), own_accepts(claim, paper), (claim, paper))
                    right += accepts(claim, paper)
        self.assertGreater(right, 300)


class GreatestTest(unittest.TestCase):
    def test_many_columns_and_great_numbers(self):
        table = "w x y z\n" + "\n".join(f"{name} -10000 10000 -9999 9999 0 1 10000 10000" for name in "abcdefgh")
        shares = tuple((1, 8) for _ in range(8))
        self.assertIs(accepts(("safe", table, (-10000, 1)), shares), True)
        great = 10 ** 99
        self.assertIs(accepts(("safe", table, (-10 ** 99, 1)), shares), True)
        self.assertIs(accepts(("safe", table, (great, great - 1)), shares), False)
        self.assertIs(accepts(("safe", table, (-10000 * great - 1, great)), shares), True)
        self.assertIs(accepts(("safe", table, (-10000 * great + 1, great)), shares), False)
        part = ((1, great), (great - 1, great), *[(0, 1)] * 6)
        self.assertIs(accepts(("safe", table, (-10000, 1)), part), True)
        self.assertIs(accepts(("ring", "ab\na b 1 1\nb a 0 0"), ((0, -1), (1, -1)) * 5000), True)

    def test_sixteen_signs(self):
        table = "w x y z\n" + "\n".join(f"{name} -1 1 -1 1 -1 1 -1 1" for name in "abcdefgh")
        claim, paper = certify_each(Table.told(table), ((-1, 1),) * 4)
        self.assertEqual((claim[0], len(paper), accepts(claim, paper)), ("each", 16, True))
        self.assertIs(accepts(claim, paper[:-1]), False)
        claim, paper = certify_some_answer(Table.told("w x y z\na 0 0 0 0 0 0 0 0"), ((-1, -1),))
        self.assertEqual((claim[0], len(paper), accepts(claim, paper)), ("no answer", 16, True))
        for at in range(16):
            self.assertIs(accepts(claim, (*paper[:at], (ZERO,), *paper[at + 1:])), False)


if __name__ == "__main__":
    unittest.main()

"""Members and corners of tables, tables within tables, and turned ones."""

import itertools
import random
import unittest
from fractions import Fraction

from cornersure.errors import InvalidMember, InvalidSigns, NotATable, NotWhole, TooMany
from cornersure.tables import Table, all_high, all_low, corner, exact, is_member, is_within, turned
from tests.drawn import any_member, any_table
from tests.samples import Agreeing, Case, Plain, Refusing, bar, crop, odd_numbers, odd_values, table_of


def replaced(member, row, column, value):
    numbers = member[row][:column] + (value,) + member[row][column + 1:]
    return member[:row] + (numbers,) + member[row + 1:]


class CornerTest(Case):
    def test_by_own_sums(self):
        source = random.Random(7)
        for _ in range(60):
            table = any_table(source)
            for signs in itertools.product((-1, 1), repeat=len(table.columns)):
                own = []
                for name in table.names:
                    ends = [table.stretch(name, column) for column in table.columns]
                    own.append(tuple((ends[at][(sign + 1) // 2], 1) for at, sign in enumerate(signs)))
                self.assertEqual(corner(table, signs), tuple(own))
                self.assertTrue(is_member(table, corner(table, signs)))

    def test_all_low_and_all_high(self):
        self.assertEqual(all_low(crop()), (((2, 1), (1, 1)), ((0, 1), (3, 1)), ((1, 1), (1, 1))))
        self.assertEqual(all_high(crop()), (((4, 1), (3, 1)), ((1, 1), (5, 1)), ((1, 1), (2, 1))))
        for table in (crop(), bar(), table_of(8), Table.told("a\nb -3 -2")):
            many = len(table.columns)
            self.assertEqual(all_low(table), corner(table, (-1,) * many))
            self.assertEqual(all_high(table), corner(table, (1,) * many))

    def test_each_sign_stands_for_its_column(self):
        self.assertEqual(corner(crop(), (1, -1)), (((4, 1), (1, 1)), ((1, 1), (3, 1)), ((1, 1), (1, 1))))
        self.assertEqual(corner(crop(), (-1, 1)), (((2, 1), (3, 1)), ((0, 1), (5, 1)), ((1, 1), (2, 1))))

    def test_members_are_tuples_of_tuples_of_fractions(self):
        for member in (all_low(crop()), all_high(crop()), corner(crop(), (1, -1))):
            self.assertIs(member.__class__, tuple)
            for numbers in member:
                self.assertIs(numbers.__class__, tuple)
                for top, bottom in numbers:
                    self.assertEqual((top.__class__, bottom.__class__), (int, int))

    def test_wrong_signs(self):
        wrong = [
            *odd_values(), (1,), (1, 1, 1), (0, 1), (1, 0), (2, 1), (1, -2), [1, -1], "11", b"11", {1: 1, -1: 1},
            ((1,), (1,)), ("1", "1"), (10 ** 60, 1),
        ]
        wrong += [(value, 1) for value in odd_numbers()] + [(1, value) for value in odd_numbers()]
        for signs in wrong:
            self.assert_given(InvalidSigns, signs, corner, crop(), signs)
        self.assert_given(InvalidSigns, wrong, corner, signs=wrong, table=crop())

    def test_arguments_by_name(self):
        self.assertEqual(corner(signs=(1, -1), table=crop()), corner(crop(), (1, -1)))
        self.assertEqual(all_low(table=crop()), all_low(crop()))
        self.assertEqual(all_high(table=crop()), all_high(crop()))


class ExactTest(Case):
    def test_stretches_are_the_numbers(self):
        self.assertEqual(str(exact(crop(), all_high(crop()))), "dry wet\nrye 4 4 3 3\noat 1 1 5 5\npea 1 1 2 2")
        member = (((3, 1), (2, 1)), ((0, 1), (5, 1)), ((1, 1), (2, 1)))
        table = crop()
        self.assertEqual(str(exact(table, member)), "dry wet\nrye 3 3 2 2\noat 0 0 5 5\npea 1 1 2 2")
        self.assertEqual(table, crop())
        self.assertEqual(exact(member=member, table=table), exact(table, member))

    def test_exact_tables_are_within_and_have_one_member(self):
        source = random.Random(8)
        for _ in range(40):
            table = any_table(source)
            for member in (all_low(table), all_high(table)):
                after = exact(table, member)
                self.assertTrue(is_within(after, table))
                self.assertEqual((all_low(after), all_high(after)), (member, member))

    def test_the_first_that_is_no_integer(self):
        whole = all_low(crop())
        self.assert_given_equal(NotWhole, (5, 2), exact, crop(), replaced(whole, 0, 0, (5, 2)))
        self.assert_given_equal(NotWhole, (1, 3), exact, crop(), replaced(whole, 1, 0, (1, 3)))
        self.assert_given_equal(NotWhole, (3, 2), exact, crop(), replaced(whole, 2, 1, (3, 2)))
        later = replaced(replaced(whole, 1, 1, (7, 2)), 2, 1, (5, 3))
        self.assert_given_equal(NotWhole, (7, 2), exact, crop(), later)
        self.assert_given_equal(NotWhole, (4, 3), exact, crop(), replaced(later, 0, 1, (4, 3)))

    def test_what_is_no_member(self):
        low = all_low(crop())
        wrong = [*odd_values(), all_low(bar()), low[:2], list(low), replaced(low, 0, 0, (5, 1)), replaced(low, 1, 0, 0)]
        for member in wrong:
            self.assert_given(InvalidMember, member, exact, crop(), member)

    def test_no_member_comes_ahead_of_not_whole(self):
        half = replaced(all_low(crop()), 0, 0, (5, 2))
        for member in (replaced(half, 2, 1, (9, 1)), replaced(half, 2, 1, (4, 2)), replaced(half, 2, 1, None)):
            self.assert_given(InvalidMember, member, exact, crop(), member)


class MemberTest(Case):
    def assert_no_member(self, value, table=None):
        self.assertIs(is_member(table or crop(), value), False)

    def test_numbers_between_the_ends(self):
        source = random.Random(9)
        for _ in range(80):
            table = any_table(source)
            member = any_member(source, table)
            self.assertIs(is_member(table, member), True)
            row, column = source.randrange(len(table)), source.randrange(len(table.columns))
            low, high = table.rows[row][1][column]
            for end in (low, high):
                self.assertIs(is_member(table, replaced(member, row, column, (end, 1))), True)
            for top, bottom in ((low - 1, 1), (high + 1, 1), (low * 9 - 1, 9), (high * 9 + 1, 9)):
                self.assertIs(is_member(table, replaced(member, row, column, (top, bottom))), False)

    def test_fractions_of_many_digits(self):
        near = (2 * 10 ** 60 + 1, 10 ** 60)
        self.assertIs(is_member(crop(), replaced(all_low(crop()), 0, 0, near)), True)
        self.assert_no_member(replaced(all_low(crop()), 0, 0, (2 * 10 ** 60 - 1, 10 ** 60)))

    def test_fractions_that_are_not_in_lowest_terms(self):
        for value in ((4, 2), (6, 3), (30, 10), (0, 2), (-2, -1), (2, 0), (0, 0), (3, -1), (-3, 1), (1, 0), (-5, -2)):
            self.assert_no_member(replaced(all_low(crop()), 0, 0, value))
        for value in ((0, 2), (0, 0), (0, -1), (2, 2)):
            self.assert_no_member(replaced(all_low(crop()), 1, 0, value))
        self.assertIs(is_member(crop(), replaced(all_low(crop()), 1, 0, (0, 1))), True)

    def test_numbers_below_0(self):
        table = Table.told("a\nb -3 -1")
        for value, right in (((-3, 1), True), ((-5, 2), True), ((-1, 1), True), ((-1, 2), False), ((-7, 2), False)):
            self.assertIs(is_member(table, ((value,),)), right)
        for value in ((3, -1), (5, -2), (-4, 2), (-1, -1)):
            self.assert_no_member(((value,),), table)
        for text, value in (("a\nb 1 1", (-1, -1)), ("a\nb -2 -2", (2, -1)), ("a\nb 0 0", (0, -1))):
            self.assert_no_member(((value,),), Table.told(text))

    def test_values_of_other_kinds(self):
        low = all_low(crop())
        for value in [*odd_values(), low[:2], (*low, low[0]), list(low), [list(row) for row in low], crop(), str(crop())]:
            self.assert_no_member(value)
        for row in range(3):
            for value in [*odd_values(), list(low[row]), low[row][:1], (*low[row], (1, 1)), dict(low[row])]:
                self.assert_no_member(low[:row] + (value,) + low[row + 1:])
            for column in range(2):
                top, bottom = low[row][column]
                odd = [*odd_values(), [top, bottom], (top,), (top, bottom, 1), (str(top), bottom), top, Fraction(top)]
                for value in odd + [(top, value) for value in odd_numbers()] + [(value, 1) for value in odd_numbers()]:
                    self.assert_no_member(replaced(low, row, column, value))

    def test_true_and_false_are_no_integers(self):
        for value in ((1, True), (True, 1), (True, True), (0, True), (False, 1)):
            self.assert_no_member(replaced(all_low(crop()), 1, 0, value))

    def test_members_of_other_tables(self):
        self.assert_no_member(all_low(bar()))
        self.assert_no_member(all_low(crop().without("pea")))
        self.assertIs(is_member(value=all_low(crop()), table=crop()), True)


class WithinTest(Case):
    def test_stretches_that_lie_in_the_other_ones(self):
        wide = Table.told("a b\nx 0 9 -5 5\ny 1 1 2 3")
        for text in ("a b\nx 0 9 -5 5\ny 1 1 2 3", "a b\nx 3 3 5 5\ny 1 1 2 2", "a b\nx 0 0 -5 -5\ny 1 1 3 3"):
            self.assertIs(is_within(Table.told(text), wide), True)
        for text in ("a b\nx -1 9 -5 5\ny 1 1 2 3", "a b\nx 0 10 -5 5\ny 1 1 2 3", "a b\nx 0 9 -5 5\ny 1 1 2 4",
                     "a b\nx 0 9 -5 5\ny 1 1 1 3", "a b\nx 10 11 0 0\ny 1 1 2 3", "a b\nx 1 1 9 9\ny 1 1 2 3"):
            self.assertIs(is_within(Table.told(text), wide), False)

    def test_other_columns_and_rows(self):
        table = crop()
        others = [
            bar(), table.without("pea"), table.more(("bean", ((0, 1), (0, 1)))), Table(("wet", "dry"), table.rows),
            Table(table.columns, table.rows[::-1]), Table(("dry", "mild"), table.rows),
            Table(table.columns, (*table.rows[:2], ("bean", table.rows[2][1]))),
            Table(("dry",), tuple((name, stretches[:1]) for name, stretches in table.rows)),
        ]
        for other in others:
            self.assertIs(is_within(table, other), False)
            self.assertIs(is_within(other, table), False)
        self.assertIs(is_within(table, crop()), True)

    def test_by_its_members(self):
        source = random.Random(10)
        for _ in range(80):
            table = any_table(source)
            name, column = source.choice(table.names), source.choice(table.columns)
            low, high = table.stretch(name, column)
            first, last = sorted((source.randint(-4, 4), source.randint(-4, 4)))
            ends = (max(-10000, low + first), min(10000, high + last))
            other = table.changed(name, column, (min(ends), max(ends)))
            corners = [corner(other, signs) for signs in itertools.product((-1, 1), repeat=len(table.columns))]
            self.assertIs(is_within(other, table), all(is_member(table, member) for member in corners))

    def test_arguments_by_name(self):
        narrow = crop().changed("rye", "dry", (3, 3))
        self.assertIs(is_within(other_table=crop(), table=narrow), True)
        self.assertIs(is_within(other_table=narrow, table=crop()), False)


class TurnedTest(Case):
    def test_rows_for_columns_with_the_opposite_sign(self):
        self.assertEqual(str(turned(crop())), "rye oat pea\ndry -4 -2 -1 0 -1 -1\nwet -3 -1 -5 -3 -2 -1")
        self.assertEqual(str(turned(Table.told("a\nb -3 2"))), "b\na -2 3")
        table = crop()
        self.assertEqual(turned(table=table), turned(table))
        self.assertEqual(table, crop())

    def test_by_own_sums(self):
        source = random.Random(11)
        for _ in range(60):
            table = any_table(source)
            if len(table) > 4:
                self.assert_given_equal(TooMany, len(table), turned, table)
                continue
            after = turned(table)
            self.assertEqual((after.columns, after.names), (table.names, table.columns))
            for name, column in itertools.product(table.names, table.columns):
                low, high = table.stretch(name, column)
                self.assertEqual(after.stretch(column, name), (-high, -low))
            self.assertEqual(turned(after), table)

    def test_too_many_rows(self):
        self.assertEqual(turned(table_of(4)).columns, ("a", "b", "c", "d"))
        for many in (5, 6, 7, 8):
            self.assert_given_equal(TooMany, many, turned, table_of(many))


class NotATableTest(Case):
    def test_what_is_no_table(self):
        crops = [str(crop()), crop().rows, (crop().columns, crop().rows), (crop(),), [crop()], Table]
        for value in [*odd_values(), *crops, Plain(), Agreeing(), Refusing()]:
            for action in (all_low, all_high, turned):
                self.assert_given(NotATable, value, action, value)
                self.assert_given(NotATable, value, action, table=value)
            for action in (corner, exact, is_member, is_within):
                self.assert_given(NotATable, value, action, value, None)
            self.assert_given(NotATable, value, is_within, crop(), value)
            self.assert_given(NotATable, value, is_within, other_table=value, table=bar())

    def test_the_first_table_comes_first(self):
        first, second = Plain(), Plain()
        self.assert_given(NotATable, first, is_within, first, second)
        self.assert_given(NotATable, first, is_within, other_table=second, table=first)

    def test_it_comes_ahead_of_what_is_behind(self):
        for action in (corner, exact, is_member):
            self.assert_given(NotATable, None, action, None, Refusing())


if __name__ == "__main__":
    unittest.main()

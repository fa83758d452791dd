"""What holds for all functions of the interface alike: their arguments by position and by name, and their errors."""

from cornersure import errors
from tests.samples import Case, Plain, odd_numbers, odd_values


def parts_replaced(good, wrong_parts):
    """A tuple with each of these in the place of its first and of its last part."""
    return [value for part in wrong_parts for value in ((part, *good[1:]), (*good[:-1], part))]


def unlike_tuples(good):
    """What is no tuple, or has another number of parts than this one."""
    return [*odd_values(), list(good), dict(enumerate(good)), good[:-1], (*good, good[0]), (good,), str(good)]


def wrong_stretches(most, least=None):
    least = -most if least is None else least
    wrong = [*odd_values(), (1, 2, 3), (2, 1), [1, 2], {1: 2, 2: 1}, "12", (least - 1, 0), (0, most + 1)]
    wrong += [(10 ** 60, 10 ** 60), (-10 ** 60, 0), ((1, 1), (2, 1)), (least - 1, least - 1), (most + 1, most + 1)]
    return wrong + [(number, 1) for number in odd_numbers()] + [(0, number) for number in odd_numbers()]


def wrong_fractions():
    wrong = [*odd_values(), (2, 4), (0, 2), (1, 0), (0, 0), (1, -1), (-1, -2), [1, 2], (1, 1, 1), (1,), {1: 1}, "1/2"]
    return wrong + [(number, 1) for number in odd_numbers()] + [(1, number) for number in odd_numbers()]


def wrong_weights(good):
    return unlike_tuples(good) + parts_replaced(good, [*odd_numbers(), 1001, -1001, 10 ** 60, (1, 1)])


def wrong_mixes(good):
    """For a mix of whole rows, the first of which has the share 1."""
    half, double = ((1, 2), *good[1:]), ((2, 1), *good[1:])
    negative = ((2, 1), *good[1:-1], (-1, 1))
    return [half, double, negative, *unlike_tuples(good), *parts_replaced(good, [*wrong_fractions(), (-1, 1), (1, 3)])]


def wrong_stretch_tuples(good, most):
    return unlike_tuples(good) + parts_replaced(good, wrong_stretches(most))


def wrong_prices(good):
    return unlike_tuples(good) + parts_replaced(good, [*odd_numbers(), -1, 1001, 10 ** 60, (1, 1)])


def wrong_signs(good):
    return unlike_tuples(good) + parts_replaced(good, [*odd_numbers(), 0, 2, -2, 10 ** 60, (1,)])


def wrong_answers(good):
    return unlike_tuples(good) + parts_replaced(good, wrong_fractions())


def wrong_members(good):
    """For a member that is a tuple of tuples of fractions; all-LOW and all-HIGH of other sizes are wrong, too."""
    low, *rest = good
    wrong = [[*good], (list(low), *rest), (low[:-1], *rest), (low, *rest, low), tuple(rest), ((low,), *rest)]
    wrong += [((part, *low[1:]), *rest) for part in [*wrong_fractions(), (10001, 1), (-10001, 1)]]
    return odd_values() + wrong


def wrong_names(good):
    return [*odd_values(), good + "x", good[:-1], good + " ", good.upper(), (good,), [good], good.encode(), {good: 1}]


class Call:
    """A function, its right arguments by name, in the order of its signature, and what is wrong for each of them.

    What is wrong: for a name of a parameter an error's class and the values for which it is raised with `given`; if a
    function stands behind these, the error is raised with the `index` that it tells for the value.
    """

    def __init__(self, action, right, wrong):
        self.action = action
        self.right = right
        self.wrong = wrong


def shown(value):
    """A value as it is now, with all that it has in it."""
    if isinstance(value, (tuple, list)):
        return [value.__class__.__name__, *[shown(part) for part in value]]
    return [value.__class__.__name__, str(value)]


class CallsCase(Case):
    def assert_by_position_and_by_name(self, call):
        right = call.right()
        before = shown(list(right.values()))
        answer = shown(call.action(*right.values()))
        self.assertEqual(shown(list(right.values())), before)
        self.assertEqual(shown(call.action(**dict(reversed(right.items())))), answer)
        self.assertEqual(shown(call.action(**call.right())), answer)
        self.assertEqual(shown(call.action(*right.values())), answer)
        code = call.action.__code__
        self.assertEqual(code.co_varnames[:code.co_argcount], tuple(right))

    def assert_errors(self, call):
        """Each wrong value raises its error, whatever is wrong behind it."""
        right = call.right()
        names = list(right)
        self.assertEqual(set(call.wrong), set(names))
        for at, name in enumerate(names):
            for value in call.wrong[name][1]:
                with self.subTest(action=call.action.__name__, name=name, kind=value.__class__.__name__):
                    here = {**right, name: value}
                    self.assert_error(call.wrong[name], value, call.action, **here)
                    later = {other: call.wrong[other][1][0] for other in names[at + 1:]}
                    self.assert_error(call.wrong[name], value, call.action, *{**here, **later}.values())
                    odd = {other: Plain() for other in names[at + 1:]}
                    self.assert_error(call.wrong[name], value, call.action, **{**here, **odd})

    def assert_error(self, wrong, value, action, *args, **named):
        kind, _, *told = wrong
        if told:
            self.assert_index(kind, told[0](value), action, *args, **named)
        else:
            self.assert_given(kind, value, action, *args, **named)

    def assert_calls(self, calls):
        for call in calls:
            with self.subTest(action=call.action.__name__):
                self.assert_by_position_and_by_name(call)
                self.assert_errors(call)


def no_tables(table):
    return errors.NotATable, [*odd_values(), str(table), table.rows, (table.columns, table.rows), [table], (table,)]

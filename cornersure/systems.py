"""Systems: rows of inequalities known within stretches, their sure and possible answers, and what bars them."""

from cornersure.errors import InvalidAnswer, InvalidBounds, NoAnswer
from cornersure.kinds import is_fraction, is_tuple_of
from cornersure.programs import Program
from cornersure.ratios import all_over, is_below, least, opposite, reduced, with_one_bottom
from cornersure.sums import check_weights, weighed_ends
from cornersure.tables import all_signs, are_end_pairs, check_table, column_index, column_stretches, signed_ends


def check_bounds(table, bounds):
    """Raise InvalidBounds for what is no tuple of stretches, one for each row."""
    if not are_end_pairs(bounds, len(table)):
        raise InvalidBounds(bounds)


def check_answer(table, answer):
    """Raise InvalidAnswer for what is no tuple of fractions, one for each column."""
    if not is_tuple_of(answer, len(table.columns)) or not all([is_fraction(part) for part in answer]):
        raise InvalidAnswer(answer)


def row_ends(table, answer):
    """For each row the pair of the least and the greatest sum of number times fraction."""
    check_table(table)
    check_answer(table, answer)
    tops, bottom = with_one_bottom(answer)
    return tuple([all_over(weighed_ends(stretches, tops), bottom) for _, stretches in table.rows])


def is_sure_answer(table, bounds, answer):
    """Whether it is an answer of all members."""
    _check_system(table, bounds)
    ends = row_ends(table, answer)
    return not any([is_below((low, 1), high) for (_, high), (low, _) in zip(ends, bounds)])


def is_possible_answer(table, bounds, answer):
    """Whether it is an answer of some member."""
    _check_system(table, bounds)
    ends = row_ends(table, answer)
    return not any([is_below((high, 1), low) for (low, _), (_, high) in zip(ends, bounds)])


def sure_answer(table, bounds):
    """Any answer of all members; None if there is none."""
    _check_system(table, bounds)
    program = sure_program(table, bounds, _no_weights(table))
    if not program.is_kept():
        return None
    tops, many = program.number_tops(), len(table.columns)
    return all_over([top - other for top, other in zip(tops[:many], tops[many:])], program.bottom)


def possible_answer(table, bounds):
    """Any answer of some member; None if there is none."""
    _check_system(table, bounds)
    for signs in all_signs(table):
        program = possible_program(table, bounds, _no_weights(table), signs)
        if program.is_kept():
            tops = program.number_tops()
            return all_over([top * sign for top, sign in zip(tops, signs)], program.bottom)
    return None


def barring_member(table, bounds):
    """Any pair of a member without an answer and loads that show it; None if there is a sure answer."""
    _check_system(table, bounds)
    program = sure_program(table, bounds, _no_weights(table))
    if program.is_kept():
        return None
    loads = program.barring_tops()
    columns = [_numbers_that_cancel(stretches, loads) for stretches in column_stretches(table)]
    return tuple(zip(*columns)), all_over(loads, program.bottom)


def barring_weights(table, bounds):
    """For all signs, ascending, loads that show that there is no answer with them; None if there is a possible one."""
    _check_system(table, bounds)
    programs = _possible_programs(table, bounds, _no_weights(table))
    if any([program.is_kept() for program in programs]):
        return None
    return tuple([all_over(program.barring_tops(), program.bottom) for program in programs])


def sure_range(table, bounds, column):
    """The pair of the least and the greatest number of this column in sure answers, None for no such end."""
    return _range(table, bounds, column, _sure_programs)


def possible_range(table, bounds, column):
    """The pair of the least and the greatest number of this column in possible answers, None for no such end."""
    return _range(table, bounds, column, _possible_programs)


def sure_cost(table, bounds, weights):
    """The least sum of weight times number of a sure answer; None if there is no least one."""
    _check_system(table, bounds)
    check_weights(table, weights)
    return _least_cost(_sure_programs(table, bounds, weights))


def possible_cost(table, bounds, weights):
    """The least sum of weight times number of a possible answer; None if there is no least one."""
    _check_system(table, bounds)
    check_weights(table, weights)
    return _least_cost(_possible_programs(table, bounds, weights))


def sure_program(table, bounds, weights):
    """The program of sure answers p - q: first the numbers of p, then those of q, all from 0 on."""
    rows = [_ends_for(stretches, 1) + _ends_for(stretches, -1) for _, stretches in table.rows]
    costs = [*weights, *[-weight for weight in weights]]
    return Program(rows, [low for low, _ in bounds], costs)


def possible_program(table, bounds, weights, signs):
    """The program of possible answers with these signs: their numbers without the signs."""
    others = [-sign for sign in signs]
    rows = [_signed(signed_ends(stretches, others), signs) for _, stretches in table.rows]
    return Program(rows, [high for _, high in bounds], _signed(weights, signs))


def _check_system(table, bounds):
    check_table(table)
    check_bounds(table, bounds)


def _no_weights(table):
    return [0] * len(table.columns)


def _signed(numbers, signs):
    return [number * sign for number, sign in zip(numbers, signs)]


def _ends_for(stretches, sign):
    signs = [sign] * len(stretches)
    return _signed(signed_ends(stretches, signs), signs)


def _sure_programs(table, bounds, weights):
    return [sure_program(table, bounds, weights)]


def _possible_programs(table, bounds, weights):
    return [possible_program(table, bounds, weights, signs) for signs in all_signs(table)]


def _least_cost(programs):
    """The least cost of these programs; None if there is no least one; raise NoAnswer if none is kept."""
    costs = [program.least_cost() for program in programs if program.is_kept()]
    if not costs:
        raise NoAnswer()
    return None if None in costs else least(costs)


def _range(table, bounds, column, programs_for):
    _check_system(table, bounds)
    chosen = column_index(table, column)
    weights = [1 if at == chosen else 0 for at in range(len(table.columns))]
    low = _least_cost(programs_for(table, bounds, weights))
    high = _least_cost(programs_for(table, bounds, [-weight for weight in weights]))
    return low, None if high is None else opposite(high)


def _numbers_that_cancel(stretches, loads):
    """A number of each stretch, so that their loaded sum is 0; with LOWs it is at most 0, with HIGHs at least."""
    lowest = sum([load * low for load, (low, _) in zip(loads, stretches)])
    highest = sum([load * high for load, (_, high) in zip(loads, stretches)])
    if lowest == highest:
        return tuple([(low, 1) for low, _ in stretches])
    return tuple([reduced(low * highest - high * lowest, highest - lowest) for low, high in stretches])

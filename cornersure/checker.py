"""The checker of claims: it accepts a paper only if the claim is so, whoever wrote it."""

from cornersure.choices import FAR, OWN
from cornersure.errors import NotPossible, WrongName, WrongValue
from cornersure.flows import check_wishes, lots_of, pairs_out
from cornersure.kinds import is_fraction, is_integer, is_one_of, is_tuple_of
from cornersure.lot_papers import are_integers, is_flow, shows_cut, shows_pairing, shows_tree, shows_way
from cornersure.ratios import is_below
from cornersure.seats import check_seating, check_word, last_worths, next_worths
from cornersure.table_papers import shows_answer, shows_mix, shows_price, shows_worth
from cornersure.things import thing_told
from cornersure.times import check_point, steps_of
from cornersure.webs import check_place

# For each word the field that it is of, and how many values stand behind the text.
_CLAIMS = {
    "safe": ("worth", 1),
    "unsafe": ("worth", 1),
    "hoped": ("worth", 1),
    "unhoped": ("worth", 1),
    "one": ("mix", 1),
    "split": ("mix", 1),
    "each": ("mix", 1),
    "barred": ("mix", 1),
    "some": ("mix", 1),
    "none": ("mix", 1),
    "costs": ("price", 3),
    "asks": ("price", 3),
    "one answer": ("answer", 1),
    "barred answer": ("answer", 1),
    "some answer": ("answer", 1),
    "no answer": ("answer", 1),
    "times": ("times", 0),
    "ring": ("times", 0),
    "lead": ("times", 3),
    "reached": ("times", 3),
    "possible way": ("way", 1),
    "no way": ("way", 1),
    "sure way": ("way", 1),
    "unsure way": ("way", 1),
    "possible pairing": ("pairing", 1),
    "no pairing": ("pairing", 1),
    "sure pairing": ("pairing", 1),
    "unsure pairing": ("pairing", 1),
    "possible tree": ("tree", 1),
    "no tree": ("tree", 1),
    "sure tree": ("tree", 1),
    "unsure tree": ("tree", 1),
    "possible cut": ("cut", 3),
    "no cut": ("cut", 3),
    "sure cut": ("cut", 3),
    "unsure cut": ("cut", 3),
    "served": ("wishes", 2),
    "not served": ("wishes", 2),
    "can come": ("seats", 2),
    "cannot come": ("seats", 2),
}
_KINDS = {
    "worth": "table", "mix": "table", "price": "table", "answer": "table", "pairing": "table", "times": "times",
    "way": "web", "tree": "web", "cut": "web", "wishes": "web", "seats": "counts",
}


def accepts(claim, paper):
    """Whether this is a claim for the checker and a paper for it, whatever both are."""
    if not isinstance(claim, tuple) or len(claim) < 2 or not is_one_of(claim[0], list(_CLAIMS)):
        return False
    field, many = _CLAIMS[claim[0]]
    if len(claim[2:]) != many:
        return False
    try:
        return _shows(claim[0], field, thing_told(_KINDS[field], claim[1]), claim[2:], paper)
    except (WrongValue, WrongName, NotPossible):
        # What is no part of such a claim, or no paper of its form, shows nothing.
        return False


def _shows(word, field, thing, parts, paper):
    if field == "worth":
        return shows_worth(thing, word, parts[0], paper)
    if field == "mix":
        return shows_mix(thing, word, parts[0], paper)
    if field == "price":
        return shows_price(thing, word, parts, paper)
    if field == "answer":
        return shows_answer(thing, word, parts[0], paper)
    if field == "times":
        return _shows_times(thing, word, parts, paper)
    if field == "wishes":
        return _shows_wishes(thing, word, parts, paper)
    if field == "seats":
        return _shows_seating(thing, word, parts, paper)
    return _shows_lot(word.split(" ")[0], field, thing, parts, paper)


def _shows_lot(mark, field, thing, parts, paper):
    end, is_best = OWN if mark in ("possible", "no") else FAR, mark in ("possible", "sure")
    if field == "way":
        return shows_way(thing, parts[0], end, is_best, paper)
    if field == "pairing":
        return shows_pairing(thing, parts[0], end, is_best, paper)
    if field == "tree":
        return shows_tree(thing, parts[0], end, is_best, paper)
    return shows_cut(thing, parts, end, is_best, paper)


def _shows_times(times, word, parts, paper):
    if word == "times":
        return _is_schedule(times, paper)
    if word == "ring":
        return _is_ring(times, paper)
    point, later, number = parts
    check_point(times, point)
    check_point(times, later)
    if not is_integer(number):
        return False
    if word == "lead":
        size = _size_of_chain(times, later, point, paper)
        return size is not None and size <= -number
    if not _is_schedule(times, paper):
        return False
    return paper[times.points.index(later)] - paper[times.points.index(point)] == number


def _is_schedule(times, value):
    if not are_integers(value, len(times.points)) or value[0] != 0:
        return False
    numbers = {point: number for point, number in zip(times.points, value)}
    return all([low <= numbers[end] - numbers[start] <= high for start, end, (low, high) in times.facts])


def _is_ring(times, value):
    steps = _steps_by_label(times)
    if not _are_labels(value, steps) or not value:
        return False
    begun = steps[value[0]][0]
    size = _size_of_chain(times, begun, begun, value)
    return size is not None and size < 0


def _size_of_chain(times, point, later, value):
    """The size of a chain of steps from the one point to the other; None for what is none."""
    steps = _steps_by_label(times)
    if not _are_labels(value, steps):
        return None
    sizes = []
    for start, end, size in [steps[part] for part in value]:
        if start != point:
            return None
        point = end
        sizes.append(size)
    return sum(sizes) if point == later else None


def _steps_by_label(times):
    return {label: (start, end, size) for start, end, size, label in steps_of(times)}


def _are_labels(value, steps):
    return isinstance(value, tuple) and all([are_integers(part, 2) and part in steps for part in value])


def _shows_wishes(web, word, parts, paper):
    place, wishes = parts
    check_place(web, place)
    check_wishes(web, place, wishes)
    lows = {pair: low for pair, (low, _) in web.ties}
    highs = {letter: high for letter, (_, high) in zip(web.places, wishes)}
    if word == "served":
        return is_flow(web, paper, lows, {letter: highs[letter] for letter in highs if letter != place})
    if not is_one_of(paper, [lot for lot in lots_of(web.places) if place not in lot]):
        return False
    return sum([highs[letter] for letter in paper]) > sum([lows[pair] for pair in pairs_out(web, paper)])


def _shows_seating(counts, word, parts, paper):
    divisors, seating = parts
    check_word(divisors)
    check_seating(counts, seating)
    lasts, nexts = last_worths(counts, divisors, seating, 1), next_worths(counts, divisors, seating, 0)
    if word == "can come":
        # No next seat is worth less than 0, so that the price is from 0 on.
        if not is_fraction(paper) or any([is_below(paper, worth) for worth in nexts.values()]):
            return False
        return not any([is_below(worth, paper) for worth in lasts.values()])
    if not is_tuple_of(paper, 2) or not is_one_of(paper[0], list(lasts)) or not is_one_of(paper[1], list(nexts)):
        return False
    return is_below(lasts[paper[0]], nexts[paper[1]])

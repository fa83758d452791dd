"""Logs of desks, and the desks to which they lead."""

import random
import unittest

from cornersure.desks import Desk, played
from cornersure.errors import InvalidLog, NotPossible, NothingToUndo, WrongName, WrongValue
from tests.own_wishes import wrong_wishes
from tests.samples import Agreeing, Case, Plain, Refusing, odd_numbers, odd_values
from tests.test_counts import poll
from tests.test_desks import WORST, field, shown
from tests.test_times import day
from tests.test_webs import yard

LOG = (
    ("put", "crop", "table", str(field())), ("put", "day", "times", str(day())), ("put", "yard", "web", str(yard())),
    ("put", "poll", "counts", str(poll())), ("promise", ("crop", ("safe", 1))), ("promise", ("within", "crop", "crop")),
    ("promise", ("yard", ("served", "a", ((0, 0), (0, 1), (1, 1), (0, 1))))), ("lift", 1), ("drop", "day"),
    ("put", "crop", "table", str(field().changed("rye", "dry", (3, 3)))),
)


def desk_by_hand():
    desk = Desk()
    for name, thing in (("crop", field()), ("day", day()), ("yard", yard()), ("poll", poll())):
        desk.put(name, thing)
    for promise in [part for word, *(part, *_) in LOG if word == "promise"]:
        desk.promise(promise)
    desk.lift(1)
    desk.drop("day")
    desk.put("crop", field().changed("rye", "dry", (3, 3)))
    return desk


class LogTest(Case):
    def test_the_log_of_each_deed(self):
        desk = desk_by_hand()
        self.assertEqual(desk.log, LOG)
        self.assertEqual((desk.log.__class__, len(desk.log)), (tuple, desk.changes))
        for many in range(len(LOG) - 1, -1, -1):
            desk.undo()
            self.assertEqual(desk.log, LOG[:many])
        desk.put("crop", day())
        self.assertEqual(desk.log, (("put", "crop", "times", str(day())),))

    def test_what_is_refused_or_taken_back_does_not_stand_in_it(self):
        desk = desk_by_hand()
        with self.assertRaises(NotPossible):
            desk.put("crop", WORST)
        with self.assertRaises(WrongName):
            with desk.trial():
                desk.put("new", field())
                desk.lift(0)
                desk.drop("z")
        self.assertEqual(desk.log, LOG)
        with desk.trial():
            desk.undo()
            desk.lift(0)
        self.assertEqual(desk.log, (*LOG[:-1], ("lift", 0)))


class PlayedTest(Case):
    def test_a_desk_with_the_same_log(self):
        for many in range(len(LOG) + 1):
            desk = played(LOG[:many])
            self.assertEqual((desk.__class__, desk.log, desk.changes), (Desk, LOG[:many], many))
        self.assertEqual(shown(played(log=LOG)), shown(desk_by_hand()))
        self.assertEqual(shown(played(())), shown(Desk()))
        self.assertIs(played(LOG) == played(LOG), False)

    def test_it_goes_on_as_the_first_one(self):
        one, other = desk_by_hand(), played(LOG)
        deeds = (lambda desk: desk.promise(("crop", ("one", ((1, 3), (1, 5))))), lambda desk: desk.put("crop", WORST),
                 lambda desk: desk.drop("yard"), lambda desk: desk.lift(1), lambda desk: desk.drop("yard"),
                 *[lambda desk: desk.undo()] * (len(LOG) + 4))
        for deed in deeds:
            self.assertEqual(self.told(deed, one), self.told(deed, other))
            self.assertEqual(shown(one), shown(other))
        self.assertEqual(one.log, ())

    def told(self, deed, desk):
        try:
            return deed(desk)
        except (WrongValue, WrongName, NotPossible) as error:
            return error.__class__, vars(error)

    def test_of_random_desks(self):
        source = random.Random(331)
        for _ in range(40):
            desk = Desk()
            for _ in range(30):
                self.told(lambda desk: self.do_something(source, desk), desk)
            self.assertEqual(shown(played(desk.log)), shown(desk))

    def do_something(self, source, desk):
        kind, name = source.choice(("put", "drop", "promise", "lift", "undo")), source.choice("abc")
        if kind == "put":
            desk.put(name, source.choice((field(), WORST, day(), yard(), poll())))
        elif kind == "drop":
            desk.drop(name)
        elif kind == "promise":
            desk.promise(source.choice(((name, ("safe", 1)), (name, ("times",)), ("within", name, "a"), (name, ("way", "abd")))))
        elif kind == "lift":
            desk.lift(0)
        else:
            desk.undo()

    def test_an_unusual_name(self):
        desk = Desk()
        desk.put("within", field())
        desk.promise(("within", ("safe", 1)))
        self.assertEqual(shown(played(desk.log)), shown(desk))


class WrongLogTest(Case):
    def test_what_is_no_tuple(self):
        for log in [*odd_values(), list(LOG), dict(enumerate(LOG)), str(LOG), desk_by_hand(), {LOG[0]: 1}]:
            if not isinstance(log, tuple):
                self.assert_index(InvalidLog, None, played, log)

    def assert_wrong(self, change, ahead=0):
        for index in (ahead, len(LOG)):
            self.assert_index(InvalidLog, index, played, (*LOG[:index], change))
            self.assert_index(InvalidLog, index, played, (*LOG[:index], change, *LOG[index:], None))

    def test_elements_of_other_forms(self):
        for change in [*odd_values(), Agreeing(), Refusing(), Plain(), field(), ("undo",), ("trial",), ("put",), ("drop",),
                       ("promise",), ("lift",), "drop", ("dropp", "poll"), (b"drop", "poll"), (Agreeing(), "poll"),
                       (Refusing(), "poll"), (Refusing(),), ("put", "a", "table"), ("drop", "poll", "poll"), ("lift", 0, 0),
                       ("promise", ("poll", ("safe", 1)), 1)]:
            self.assert_wrong(change)
        for change in LOG:
            for other in (list(change), change[:-1], (*change, None), change[1:], (change[0].upper(), *change[1:]), (change,),
                          (change[0] + " ", *change[1:]), dict(enumerate(change)), str(change)):
                self.assert_wrong(other)

    def test_things_that_are_none(self):
        texts = {"table": str(field()), "times": str(day()), "web": str(yard()), "counts": str(poll())}
        for kind, text in texts.items():
            for other in texts:
                # The text of a web is that of a table with one column, too.
                if other != kind and (kind, other) != ("web", "table"):
                    self.assert_wrong(("put", "a", other, text))
            for value in [*odd_values(), text + " ", text + "\n", text.upper() + "?", text.encode(), (text,), [text]]:
                self.assert_wrong(("put", "a", kind, value))
            for value in [*odd_values(), kind + " ", kind.upper(), kind[:-1], (kind,), [kind], kind.encode(), Refusing()]:
                self.assert_wrong(("put", "a", value, text))
            for value in [*odd_values(), "A", "a ", "ninelette", ("a",), ["a"], b"a"]:
                self.assert_wrong(("put", value, kind, text))

    def test_changes_that_are_refused_there(self):
        self.assert_wrong(("put", "crop", "table", str(WORST)), 5)
        for name in [*odd_values(), "z", "Crop", ["crop"], ("crop",)]:
            self.assert_wrong(("drop", name), 4)
        self.assert_wrong(("drop", "crop"), 5)
        for index in [*odd_numbers(), -1, 7, 10 ** 60, (0,)]:
            self.assert_wrong(("lift", index), 6)
        for wish in [*wrong_wishes()[::7], ("safe", 9)]:
            self.assert_wrong(("promise", ("crop", wish)), 5)
        for promise in [*odd_values(), ("z", ("safe", 1)), ("within", "crop", "z"), ["crop", ("safe", 1)], ([], ("safe", 1)),
                        ("crop", ("safe", 10 ** 9)), ("poll", ("safe", 1)), ("within", "crop", "poll")]:
            self.assert_wrong(("promise", promise), 5)

    def test_logs_with_one_element_more_less_twice_or_exchanged(self):
        seen = {"played": 0, "refused": 0}
        for at in range(len(LOG)):
            for log in (LOG[:at] + LOG[at + 1:], LOG[:at] + LOG[at:at + 1] + LOG[at:],
                        (*LOG[:at], *LOG[at:at + 2][::-1], *LOG[at + 2:])):
                own = self.first_refused(log)
                seen["played" if own is None else "refused"] += 1
                if own is None:
                    self.assertEqual(played(log).log, log)
                else:
                    self.assert_index(InvalidLog, own, played, log)
        self.assertGreater(min(seen.values()), 3)

    def first_refused(self, log):
        """The index of the first change that a desk refuses."""
        things = {str(thing): thing for thing in (field(), field().changed("rye", "dry", (3, 3)), day(), yard(), poll())}
        desk = Desk()
        for index, (word, *parts) in enumerate(log):
            try:
                if word == "put":
                    desk.put(parts[0], things[parts[2]])
                else:
                    {"drop": desk.drop, "promise": desk.promise, "lift": desk.lift}[word](*parts)
            except (WrongValue, WrongName, NotPossible):
                return index
        return None

    def test_nothing_can_be_taken_back_of_no_log(self):
        with self.assertRaises(NothingToUndo):
            played(()).undo()


if __name__ == "__main__":
    unittest.main()

"""Desks, beside an own list of states."""

import random
import unittest

from cornersure.boards import Board
from cornersure.desks import Desk
from cornersure.errors import (
    Broken, InUse, InvalidName, InvalidNumber, InvalidWish, NotAThing, NothingToUndo, UnknownName)
from cornersure.seats import Counts
from cornersure.tables import Table
from cornersure.times import Times
from cornersure.webs import Web
from tests.own_wishes import OTHERS, TABLE, WISHES, own_holds, wrong_wishes
from tests.samples import Agreeing, Case, Plain, Refusing, bar, odd_numbers, odd_values
from tests.test_counts import poll
from tests.test_times import day
from tests.test_webs import yard
from tests.trials import TrialsCase



def field():
    return Table.told(TABLE)


KINDS = {"table": field, "times": day, "web": yard, "counts": poll}
NAMES = {"table": "crop", "times": "day", "web": "yard", "counts": "poll"}
THINGS = {"table": Table, "times": Times, "web": Web, "counts": Counts}
WORST = field().changed("rye", "wet", (-9, 3)).changed("pea", "dry", (-9, 1))


def full_desk():
    desk = Desk()
    for kind, name in NAMES.items():
        desk.put(name, KINDS[kind]())
    return desk


def shown(desk):
    """All that a desk tells of itself."""
    things = {name: str(desk.named(name)) for name in desk.names}
    return desk.names, things, desk.promises, desk.changes, len(desk), desk.log


class DeedsTest(Case):
    def test_a_new_desk(self):
        desk = Desk()
        self.assertEqual(shown(desk), ((), {}, (), 0, 0, ()))
        self.assertIs(bool(desk), True)
        for name in ("names", "promises", "changes", "log"):
            with self.assertRaises(AttributeError):
                setattr(desk, name, ())

    def test_each_deed(self):
        desk, table, other = Desk(), field(), field().changed("rye", "dry", (3, 4))
        self.assertIsNone(desk.put("crop", table))
        self.assertIsNone(desk.put("bean", other))
        self.assertIsNone(desk.put(thing=day(), name="a"))
        self.assertEqual((desk.names, len(desk), desk.changes), (("a", "bean", "crop"), 3, 3))
        self.assertEqual((desk.named("crop"), desk.named(name="a")), (field(), day()))
        self.assertIsNone(desk.promise(("crop", ("safe", 1))))
        self.assertIsNone(desk.promise(wish=("within", "bean", "crop")))
        self.assertEqual(desk.promises, (("crop", ("safe", 1)), ("within", "bean", "crop")))
        self.assertIsNone(desk.lift(0))
        self.assertEqual((desk.promises, desk.changes), ((("within", "bean", "crop"),), 6))
        self.assertIsNone(desk.drop("a"))
        self.assertIsNone(desk.lift(index=0))
        self.assertIsNone(desk.drop(name="bean"))
        self.assertEqual((desk.names, desk.changes), (("crop",), 9))
        for _ in range(3):
            self.assertIsNone(desk.undo())
        self.assertEqual((desk.names, desk.promises, desk.changes), (("a", "bean", "crop"), (("within", "bean", "crop"),), 6))

    def test_another_thing_under_a_name(self):
        desk = Desk()
        for thing in (field(), day(), yard(), poll(), Times("ab", ()), field(), field()):
            desk.put("x", thing)
            self.assertEqual((desk.named("x"), desk.names, len(desk)), (thing, ("x",), 1))
        self.assertEqual(desk.changes, 7)
        desk.undo()
        self.assertEqual((desk.named("x"), desk.changes), (field(), 6))
        desk.undo()
        self.assertEqual(desk.named("x"), Times("ab", ()))

    def test_names(self):
        desk = Desk()
        for name in ("zz", "a", "aa", "abcdefgh", "b", "within", "table"):
            desk.put(name, field())
        self.assertEqual(desk.names, ("a", "aa", "abcdefgh", "b", "table", "within", "zz"))
        # A name may be the word of the triples.
        desk.promise(("within", ("safe", 1)))
        desk.promise(("within", "within", "within"))
        self.assert_index(InUse, 0, desk.drop, "within")

    def test_beside_a_list_of_states(self):
        source, seen = random.Random(321), {}
        for _ in range(25):
            desk, states = Desk(), [({}, (), ())]
            for _ in range(60):
                kind = self.do_something(source, desk, states)
                seen[kind] = seen.get(kind, 0) + 1
                things, promises, log = states[-1]
                told = {name: str(thing) for name, thing in things.items()}
                self.assertEqual(shown(desk), (tuple(sorted(things)), told, promises, len(states) - 1, len(things), log))
                self.assertTrue(all(own_holds(promise, things) for promise in desk.promises))
        self.assertEqual(len(seen), 12, seen)
        self.assertGreater(min(seen.values()), 8, seen)

    def do_something(self, source, desk, states):
        kind = source.choice(("put", "put", "drop", "promise", "promise", "promise", "lift", "undo"))
        action = {"put": self.put, "drop": self.drop, "promise": self.promise, "lift": self.lift, "undo": self.undo}[kind]
        return kind, action(source, desk, states)

    def put(self, source, desk, states):
        things, promises, log = states[-1]
        name = source.choice(("a", "b", "c"))
        thing = source.choice((field(), field(), field().changed("rye", "dry", (3, 3)), WORST, day(), yard(), poll(), bar()))
        after = {**things, name: thing}
        broken = [at for at, promise in enumerate(promises) if not own_holds(promise, after)]
        if broken:
            self.assert_index(Broken, broken[0], desk.put, name, thing)
            return "refused"
        desk.put(name, thing)
        kinds = {"Table": "table", "Times": "times", "Web": "web", "Counts": "counts"}
        states.append((after, promises, (*log, ("put", name, kinds[thing.__class__.__name__], str(thing)))))
        return "done"

    def drop(self, source, desk, states):
        things, promises, log = states[-1]
        name = source.choice(("a", "b", "c"))
        used = [at for at, promise in enumerate(promises) if name in (promise[1:] if len(promise) == 3 else promise[:1])]
        if name not in things:
            self.assert_given(UnknownName, name, desk.drop, name)
            return "unknown"
        if used:
            self.assert_index(InUse, used[0], desk.drop, name)
            return "refused"
        desk.drop(name)
        states.append(({key: thing for key, thing in things.items() if key != name}, promises, (*log, ("drop", name))))
        return "done"

    def promise(self, source, desk, states):
        things, promises, log = states[-1]
        if source.randint(0, 3):
            every = [wish for lists in WISHES.values() for wishes in lists for wish in wishes]
            promise = source.choice(("a", "b", "c")), source.choice(every)
        else:
            promise = "within", source.choice(("a", "b", "c")), source.choice(("a", "b", "c"))
        unknown = [name for name in (promise[1:] if len(promise) == 3 else promise[:1]) if name not in things]
        if unknown:
            self.assert_given_equal(UnknownName, unknown[0], desk.promise, promise)
            return "unknown"
        if not own_holds(promise, things):
            self.assert_index(Broken, len(promises), desk.promise, promise)
            return "refused"
        desk.promise(promise)
        states.append((things, (*promises, promise), (*log, ("promise", promise))))
        return "done"

    def lift(self, source, desk, states):
        things, promises, log = states[-1]
        index = source.randint(-1, 3)
        if not 0 <= index < len(promises):
            self.assert_given(InvalidNumber, index, desk.lift, index)
            return "refused"
        desk.lift(index)
        states.append((things, promises[:index] + promises[index + 1:], (*log, ("lift", index))))
        return "done"

    def undo(self, source, desk, states):
        if len(states) == 1:
            with self.assertRaises(NothingToUndo):
                desk.undo()
            return "refused"
        desk.undo()
        states.pop()
        return "done"


class WishesTest(Case):
    def test_each_wish_for_each_kind_of_thing(self):
        for kind, (holding, others, unfit) in WISHES.items():
            for wish in [*holding, *others, *unfit]:
                for other, name in NAMES.items():
                    desk = full_desk()
                    holds = other == kind and any(wish is one for one in holding)
                    with self.subTest(wish=wish[0], kind=other):
                        self.assertIs(own_holds((name, wish), {name: KINDS[other]()}), holds)
                        if holds:
                            desk.promise((name, wish))
                            self.assertEqual((desk.promises, desk.changes), (((name, wish),), 5))
                        else:
                            self.assert_index(Broken, 0, desk.promise, (name, wish))
                            self.assertEqual((desk.promises, desk.changes), ((), 4))

    def test_wishes_for_other_things(self):
        for kind, text, wish, holds in OTHERS:
            thing = THINGS[kind].told(text)
            with self.subTest(text=text, wish=wish):
                self.assertIs(own_holds(("x", wish), {"x": thing}), holds)
                desk = Desk()
                desk.put("x", thing)
                if holds:
                    self.assertIsNone(desk.promise(("x", wish)))
                else:
                    self.assert_index(Broken, 0, desk.promise, ("x", wish))

    def test_within(self):
        narrow, desk = field().changed("rye", "dry", (3, 3)), full_desk()
        desk.put("lean", narrow)
        for promise in (("within", "lean", "crop"), ("within", "crop", "crop"), ("within", "lean", "lean")):
            desk.promise(promise)
        for promise in (("within", "crop", "lean"), ("within", "day", "day"), ("within", "crop", "yard"),
                        ("within", "poll", "crop"), ("within", "yard", "yard")):
            self.assert_index(Broken, 3, desk.promise, promise)
        self.assert_index(Broken, 0, desk.put, "crop", field().changed("rye", "dry", (4, 4)))
        self.assert_index(Broken, 0, desk.put, "crop", day())
        self.assert_index(Broken, 0, desk.put, "lean", bar())
        self.assert_index(InUse, 0, desk.drop, "lean")
        self.assert_index(InUse, 0, desk.drop, "crop")
        desk.lift(0)
        self.assert_index(InUse, 1, desk.drop, "lean")
        self.assert_index(InUse, 0, desk.drop, "crop")

    def test_the_first_that_would_not_hold(self):
        desk = full_desk()
        for promise in (("crop", ("never below", "rye", "pea")), ("day", ("times",)), ("crop", ("safe", 1)),
                        ("crop", ("some", ((2, 2), (3, 3))))):
            desk.promise(promise)
        low = field().changed("oat", "wet", (-5, 5)).changed("pea", "wet", (0, 0)).changed("rye", "wet", (0, 3))
        self.assert_index(Broken, 2, desk.put, "crop", low)
        self.assert_index(Broken, 0, desk.put, "crop", field().changed("pea", "dry", (1, 3)))
        self.assert_index(Broken, 0, desk.put, "crop", yard())
        self.assert_index(Broken, 1, desk.put, "day", field())
        self.assert_index(Broken, 4, desk.promise, ("crop", ("safe", 2)))
        desk.put("yard", field())
        desk.lift(0)
        self.assert_index(Broken, 0, desk.put, "day", field())

    def test_what_is_no_wish(self):
        desk = full_desk()
        before = shown(desk)
        for wish in wrong_wishes():
            for promise in (("crop", wish), ("z", wish), (5, wish)):
                self.assert_given(InvalidWish, promise, desk.promise, promise)
        good = ("safe", 1)
        wrong = [*odd_values(), ("crop",), ("crop", good, good), ("crop", "crop", good), ["crop", good], ([], good), ({}, good),
                 (["crop"], good), ({"crop": 1}, good), ("within", [], "crop"), ("within", "crop", {}), ("Within", "crop", "crop"),
                 ("within", "crop"), ("within", "crop", "crop", "crop"), (good, "crop"), (None, "crop", "crop"),
                 (Agreeing(), "crop", "crop"), (Refusing(), "crop", "crop"), (b"within", "crop", "crop"), ("crop", good, None)]
        for promise in wrong:
            self.assert_given(InvalidWish, promise, desk.promise, promise)
        self.assertEqual(shown(desk), before)

    def test_names_of_promises(self):
        desk = full_desk()
        before = shown(desk)
        names = [value for value in odd_values() if not isinstance(value, (list, dict))]
        for name in [*names, "z", "Crop", ("crop",), b"crop", field(), ("within", "crop", "crop"), (["crop"],)]:
            self.assert_given(UnknownName, name, desk.promise, (name, ("safe", 1)))
            self.assert_given(UnknownName, name, desk.promise, (name, ("safe", 10 ** 60)))
            self.assert_given(UnknownName, name, desk.promise, ("within", name, "crop"))
            self.assert_given(UnknownName, name, desk.promise, ("within", "crop", name))
            self.assert_given(UnknownName, name, desk.promise, ("within", name, None))
            self.assert_given(UnknownName, name, desk.promise, ("within", "day", name))
        self.assertEqual(shown(desk), before)


class ErrorsTest(Case):
    def test_put(self):
        desk = full_desk()
        desk.promise(("crop", ("safe", 1)))
        before = shown(desk)
        for name in [*odd_values(), "Crop", "crop ", "crops1", ("crop",), ["crop"], b"crop", "cropcropc"]:
            self.assert_given(InvalidName, name, desk.put, name, field())
            self.assert_given(InvalidName, name, desk.put, name, None)
        for thing in [*odd_values(), str(field()), field().rows, (field(),), [field()], Board(field()), Desk(), Table, "table"]:
            self.assert_given(NotAThing, thing, desk.put, "crop", thing)
            self.assert_given(NotAThing, thing, desk.put, "new", thing)
        self.assert_index(Broken, 0, desk.put, "crop", WORST)
        self.assertEqual(shown(desk), before)

    def test_names_that_are_none_of_the_desk(self):
        desk = full_desk()
        before = shown(desk)
        for name in [*odd_values(), "z", "Crop", ("crop",), ["crop"], b"crop", field(), {"crop": 1}]:
            self.assert_given(UnknownName, name, desk.named, name)
            self.assert_given(UnknownName, name, desk.drop, name)
        self.assertEqual(shown(desk), before)
        for name in ("crop", None, ""):
            self.assert_given(UnknownName, name, Desk().named, name)

    def test_lift(self):
        desk = full_desk()
        for index in [*odd_numbers(), 0, 1, -1]:
            self.assert_given(InvalidNumber, index, desk.lift, index)
        desk.promise(("crop", ("safe", 1)))
        desk.promise(("day", ("times",)))
        before = shown(desk)
        for index in [*odd_numbers(), 2, -1, -2, 10 ** 60, (0,), "0"]:
            self.assert_given(InvalidNumber, index, desk.lift, index)
        self.assertEqual(shown(desk), before)
        desk.lift(1)
        desk.lift(0)
        self.assertEqual(desk.promises, ())

    def test_what_is_put_in_the_place_of_another_one_is_known(self):
        desk = full_desk()
        desk.promise(("crop", ("safe", 1)))
        self.assert_index(Broken, 0, desk.put, "crop", WORST)
        desk.lift(0)
        desk.put("crop", WORST)
        self.assertEqual(desk.named("crop"), WORST)


class DeskTrialsTest(TrialsCase):
    def made(self):
        return Desk()

    def deeds(self):
        return [lambda desk: desk.put("a", field()), lambda desk: desk.put("b", day()),
                lambda desk: desk.promise(("b", ("times",))), lambda desk: desk.promise(("a", ("safe", 1))),
                lambda desk: desk.lift(0), lambda desk: desk.drop("b"),
                lambda desk: desk.put("a", field().changed("rye", "dry", (3, 3)))]

    def refused(self):
        return [lambda desk: desk.put("a", WORST), lambda desk: desk.drop("a"), lambda desk: desk.drop("z"),
                lambda desk: desk.promise(("a", ("safe", 9))), lambda desk: desk.promise(None),
                lambda desk: desk.lift(5), lambda desk: desk.named("z"), lambda desk: desk.put("A", field()),
                lambda desk: desk.put("c", Plain())]

    def shown(self, desk):
        return shown(desk)

    def test_trials(self):
        self.assert_all_of_trials()

    def test_equality_and_truth(self):
        self.assert_equal_to_itself_alone()

    def test_nothing_to_undo(self):
        self.assert_nothing_to_undo()


if __name__ == "__main__":
    unittest.main()

"""Trials of boards and of desks: what both have alike."""

from cornersure.errors import NothingToUndo
from tests.samples import Agreeing, Case, Plain, Refusing, bar, odd_values


class Failure(Exception):
    """An error of the rows of a trial."""


class TrialsCase(Case):
    """For a thing that changes: `made`, `deeds` (functions that change it), `refused` (that it refuses), `shown`."""

    def assert_all_of_trials(self):
        self.assert_trials_end()
        self.assert_errors_come_out()
        self.assert_trials_within_trials()
        self.assert_a_call_alone()
        self.assert_tried()

    def some(self):
        """A thing with some changes, and what is shown of it."""
        thing = self.made()
        for deed in self.deeds():
            deed(thing)
        return thing, self.shown(thing)

    def assert_trials_end(self):
        thing, other = self.made(), self.made()
        with thing.trial() as held:
            self.assertIs(held, thing)
            for deed in self.deeds():
                deed(held)
                deed(other)
                self.assertEqual(self.shown(thing), self.shown(other))
        self.assertEqual(self.shown(thing), self.shown(other))
        with thing.trial():
            pass
        self.assertEqual(self.shown(thing), self.shown(other))
        for _ in self.deeds():
            thing.undo()
        self.assertEqual(self.shown(thing), self.shown(self.made()))

    def assert_errors_come_out(self):
        for many_undone in (0, 1, 2, len(self.deeds())):
            for failing in (self.fail_by_itself, *[self.failing(refused) for refused in self.refused()], self.undo_all):
                thing, before = self.some()
                with self.assertRaises(Exception) as caught:
                    with thing.trial():
                        for _ in range(many_undone):
                            thing.undo()
                        for deed in self.deeds()[len(self.deeds()) - many_undone:]:
                            deed(thing)
                        failing(thing)
                self.assertNotIsInstance(caught.exception, (AttributeError, AssertionError))
                self.assertEqual(self.shown(thing), before)
                thing.undo()
                self.deeds()[-1](thing)
                self.assertEqual(self.shown(thing), before)

    def fail_by_itself(self, thing):
        thing.undo()
        raise Failure("by itself")

    def failing(self, refused):
        return lambda thing: refused(thing)

    def undo_all(self, thing):
        while True:
            thing.undo()

    def assert_trials_within_trials(self):
        thing, before = self.some()
        thing.undo()
        shorter = self.shown(thing)
        with self.assertRaises(Failure):
            with thing.trial():
                self.deeds()[-1](thing)
                with self.assertRaises(NothingToUndo):
                    with thing.trial():
                        self.undo_all(thing)
                self.assertEqual(self.shown(thing), before)
                with thing.trial():
                    thing.undo()
                    thing.undo()
                raise Failure("outside")
        self.assertEqual(self.shown(thing), shorter)
        with thing.trial() as held:
            with self.assertRaises(Failure):
                with held.trial() as inner:
                    inner.undo()
                    raise Failure("inside")
            self.assertEqual(self.shown(thing), shorter)
            self.deeds()[-1](held)
        self.assertEqual(self.shown(thing), before)
        self.assert_one_trial_within_itself(thing)

    def assert_one_trial_within_itself(self, thing):
        before, trial = self.shown(thing), thing.trial()
        with self.assertRaises(Failure):
            with trial:
                thing.undo()
                with trial:
                    thing.undo()
                raise Failure("outside")
        self.assertEqual(self.shown(thing), before)
        with trial:
            thing.undo()
            shorter = self.shown(thing)
            with self.assertRaises(Failure), trial:
                thing.undo()
                raise Failure("inside")
        self.assertEqual(self.shown(thing), shorter)
        self.deeds()[-1](thing)
        self.assertEqual(self.shown(thing), before)

    def assert_a_call_alone(self):
        thing, before = self.some()
        trial = thing.trial()
        self.assertEqual(self.shown(thing), before)
        # It begins with the rows, not with the call.
        thing.undo()
        shorter = self.shown(thing)
        with self.assertRaises(Failure):
            with trial:
                thing.undo()
                raise Failure("later")
        self.assertEqual(self.shown(thing), shorter)

    def assert_tried(self):
        thing, before = self.some()
        for value in (None, 5, [thing], Plain()):
            self.assertIs(thing.tried(lambda held: value), value)
        self.assertIs(thing.tried(action=lambda held: held), thing)
        self.assertEqual(self.shown(thing), before)
        self.assertIsNone(thing.tried(lambda held: held.undo()))
        self.deeds()[-1](thing)
        self.assertEqual(self.shown(thing), before)
        with self.assertRaises(Failure):
            thing.tried(self.fail_by_itself)
        with self.assertRaises(NothingToUndo):
            thing.tried(self.undo_all)
        with self.assertRaises(Failure):
            thing.tried(lambda held: (held.undo(), held.tried(lambda inner: inner.undo()), self.fail_by_itself(held)))
        self.assertEqual(self.shown(thing), before)

    def assert_equal_to_itself_alone(self):
        thing, other = self.made(), self.made()
        self.assertIs(thing == thing, True)
        self.assertIs(thing != thing, False)
        for value in [other, *odd_values(), Agreeing(), Refusing(), bar(), [thing], (thing,), thing.trial()]:
            self.assertIs(thing == value, False)
            self.assertIs(thing != value, True)
        for value in (thing, self.some()[0]):
            self.assertIs(bool(value), True)

    def assert_nothing_to_undo(self):
        thing = self.made()
        for _ in range(3):
            with self.assertRaises(NothingToUndo) as caught:
                thing.undo()
            self.assertEqual(vars(caught.exception), {})
        self.assertEqual(self.shown(thing), self.shown(self.made()))

"""Benches: systems that are changed, and wishes whose answers are kept (points 38 to 40)."""

from bestodds.chances import best_chances
from bestodds.errors import (InvalidName, InvalidSystem, NoSuchChoice, NoSuchState, TooManyChanges,
                             TooManyWishes, UnknownName)
from bestodds.sure import avoidable, possible
from bestodds.systems import fault

MOST_CHANGES = 100
MOST_WISHES = 8
MOST_LETTERS = 12
LETTERS = "abcdefghijklmnopqrstuvwxyz"


class Bench:
    """A system that is changed, and wishes under names."""

    def __init__(self, system):
        check(system)
        self._now = system
        # The changed state of each change, and the system before it or, if undone, after it.
        self._past = []
        self._ahead = []
        self._wishes = {}
        self._many_solved = 0

    def add_choice(self, state, cost, ends):
        """Adds a choice as the last one of a state."""
        choices = self._choices(state)
        self._change(state, (*choices, (cost, ends)))

    def set_choice(self, state, number, cost, ends):
        """Replaces a choice of a state."""
        before, after = self._others(state, number)
        self._change(state, (*before, (cost, ends), *after))

    def remove_choice(self, state, number):
        """Removes a choice of a state."""
        before, after = self._others(state, number)
        self._change(state, (*before, *after))

    def undo(self):
        """Undoes the last change; True if there was one."""
        if not self._past:
            return False
        state, system = self._past.pop()
        self._ahead.append((state, self._now))
        self._turn_to(state, system)
        return True

    def redo(self):
        """Redoes the change that was undone last; True if there was one."""
        if not self._ahead:
            return False
        state, system = self._ahead.pop()
        self._past.append((state, self._now))
        self._turn_to(state, system)
        return True

    def system(self):
        """The current system."""
        return self._now

    def changes(self):
        """How many changes can be undone."""
        return len(self._past)

    def undone(self):
        """How many changes can be redone."""
        return len(self._ahead)

    def solved(self):
        """How many answers were solved since the bench was made."""
        return self._many_solved

    def keep(self, name, allowed, targets):
        """Keeps a wish under a name, instead of what had this name."""
        if not is_name(name):
            raise InvalidName(name)
        if name not in self._wishes and len(self._wishes) >= MOST_WISHES:
            raise TooManyWishes()
        self._wishes[name] = Wish(allowed, targets)

    def names(self):
        """The names in alphabetical order."""
        return sorted(list(self._wishes))

    def chances(self, name, most):
        """The list of the best chances of the wish with this name."""
        if name not in self._wishes:
            raise UnknownName(name)
        wish = self._wishes[name]
        if most not in wish.answers:
            wish.solve(self._now, most)
            self._many_solved += 1
        return list(wish.answers[most])

    def _choices(self, state):
        """The choices of a state; raises NoSuchState."""
        if not 0 <= state < len(self._now):
            raise NoSuchState(state)
        return self._now[state]

    def _others(self, state, number):
        """The choices of a state before one and those after it; raises NoSuchChoice, too."""
        choices = self._choices(state)
        if not 0 <= number < len(choices):
            raise NoSuchChoice(number)
        return (choices[:number], choices[number + 1:])

    def _change(self, state, choices):
        """Gives a state these choices, as a change that can be undone."""
        system = (*self._now[:state], choices, *self._now[state + 1:])
        check(system)
        if len(self._past) >= MOST_CHANGES:
            raise TooManyChanges()
        self._past.append((state, self._now))
        self._ahead = []
        self._turn_to(state, system)

    def _turn_to(self, state, system):
        """Makes this the current system, which differs in one state from the one before."""
        self._now = system
        for wish in self._wishes.values():
            wish.drop(state, system)


class Wish:
    """A wish and the answers that are kept for it."""

    def __init__(self, allowed, targets):
        self.allowed = list(allowed)
        self.targets = list(targets)
        # For True and False, if they were asked, the list of the best chances.
        self.answers = {}

    def solve(self, system, most):
        """Keeps the best chances."""
        values, _, _ = best_chances(system, self.allowed, self.targets, most)
        self.answers[most] = list(values)

    def drop(self, state, system):
        """Drops the answers that do not stay after a change of a state, given the new system."""
        for most in (True, False):
            if most in self.answers and not self.stays(most, state, system):
                del self.answers[most]

    def stays(self, most, state, system):
        """True if an answer stays after a change of a state."""
        if state in self.targets or state not in self.allowed:
            return True
        if self.answers[most][state] != (0, 1):
            return False
        # The best chance is looked at, but not solved.
        if most:
            return state not in possible(system, self.allowed, self.targets)
        return state in avoidable(system, self.allowed, self.targets)


def check(system):
    """Raises InvalidSystem if the system is not valid."""
    found = fault(system)
    if found is not None:
        raise InvalidSystem(found)


def is_name(name):
    """True if this is 1 to 12 of the letters a to z."""
    return 1 <= len(name) <= MOST_LETTERS and all([letter in LETTERS for letter in name])

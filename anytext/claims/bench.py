"""Machines that are made of machines, each only once."""

from anytext.machines.combine import between, both
from anytext.machines.machine import Machine
from anytext.machines.search import is_empty, outside, useful


class Bench:
    """Makes machines of machines, and keeps them and what was found out about them.

    Here machines with the same picture are one and the same object, so that machines can be keys.
    """

    def __init__(self, letters):
        self.machines = {}
        self.results = {}
        self.facts = {}
        self.all_texts = self.kept(Machine(letters, [True], [[0 for _ in letters]]))

    def kept(self, machine):
        """Returns the one machine with the picture of this one."""
        return self.machines.setdefault(machine.picture(), machine)

    def once(self, key, make):
        """Returns the machine that was made under the key, which `make` makes the first time."""
        if key not in self.results:
            self.results[key] = self.kept(make())
        return self.results[key]

    def meeting(self, first, second):
        """Returns the machine of the texts that both accept."""
        return self.once(("both", first, second), lambda: both(first, second))

    def leading(self, machine, state, goals):
        """Returns the machine of the texts that lead from the state to one of the goals, a tuple."""
        return self.once(("between", machine, state, goals), lambda: between(machine, state, goals))

    def has_no_text(self, machine):
        """Tells whether the machine accepts no text."""
        return self.fact(("empty", machine), lambda: is_empty(machine))

    def includes(self, larger, smaller):
        """Tells whether the larger machine accepts all texts that the smaller one accepts."""
        return self.fact(("includes", larger, smaller), lambda: outside(smaller, larger) is None)

    def useful_states(self, machine):
        """Returns the useful states of the machine."""
        return self.fact(("useful", machine), lambda: useful(machine))

    def fact(self, key, tell):
        """Returns what was found out under the key, which `tell` tells the first time."""
        if key not in self.facts:
            self.facts[key] = tell()
        return self.facts[key]

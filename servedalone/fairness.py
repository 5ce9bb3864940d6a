"""Fairness: members are chosen one after the other, each as often as its weight asks for."""


class Fair:
    """Members with weights, and how often each was chosen."""

    def __init__(self, weights):
        self._weights = tuple(weights)
        self._chosen = [0] * len(self._weights)

    @property
    def tally(self):
        """How many times each member was chosen so far."""
        return tuple(self._chosen)

    def choose(self, members):
        """The one of these members whose turn it is."""
        best = members[0]
        for member in members:
            if self._is_before(member, best):
                best = member
        self._chosen[best] += 1
        return best

    def plan(self, members, budget):
        """So many choices, as a plan for a house."""
        return tuple([(self.choose(members), 1) for _ in range(budget)])

    def _is_before(self, member, other):
        """Whether one choice more would be less, by its weight, for the member than for the other one."""
        mine = (self._chosen[member] + 1) * self._weights[other]
        return mine < (self._chosen[other] + 1) * self._weights[member]

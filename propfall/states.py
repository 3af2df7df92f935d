"""States: what lies on a plank and what stands, as loadings are put on it and taken off it."""

from propfall.errors import TooMany

MOST_STATES = 100
NEVER = "never"


class Search:
    """The search for a state in which a prop is gone while all of a lot stand."""

    def __init__(self, lying, prop, stays):
        self._lying = lying
        self._prop = prop
        self._stays = stays
        # From each state come to to the least row of the fewest deeds to it.
        self._rows = {}

    def is_sought(self, state):
        """Tell whether in a state the prop is gone while all of the lot stand."""
        return self._prop not in state[1] and all([prop in state[1] for prop in self._stays])

    def _farther(self, states):
        """Tell a list of the states come to by one deed more than some, in the order of their least rows."""
        found = []
        # These stand in the order of their rows, and so do deeds: so the
        # first row that comes to a state is its least one.
        for state in states:
            for deed in self._lying.deeds(state[0]):
                behind = self._lying.behind(state, deed)
                if behind not in self._rows:
                    self._rows[behind] = self._rows[state] + [deed]
                    found.append(behind)
        return found

    def told(self):
        """Tell the least row of the fewest deeds to a state sought, or ("never", all states sorted)."""
        states = [self._lying.first()]
        self._rows[states[0]] = []
        fewer = 0
        while states:
            sought = [state for state in states if self.is_sought(state)]
            if sought:
                return self._rows[sought[0]]
            fewer += len(states)
            if fewer > MOST_STATES:
                raise TooMany(MOST_STATES)
            states = self._farther(states)
        return (NEVER, sorted(list(self._rows)))

    def never_meets(self, states):
        """Tell whether deeds lead from states, the first one among them, to these alone, and none is sought."""
        among = {state: True for state in states}
        if self._lying.first() not in among or any([self.is_sought(state) for state in states]):
            return False
        return all([self._lying.behind(state, deed) in among
                    for state in among for deed in self._lying.deeds(state[0])])

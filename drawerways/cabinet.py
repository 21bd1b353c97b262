"""A cabinet: a TREE and HANDS, with a LOG of all STEPS, which can be taken back."""

from drawerways.cutting import cut
from drawerways.errors import NoBack, NoStep
from drawerways.eventtexts import shown_log
from drawerways.hints import Hints
from drawerways.kinds import is_number
from drawerways.runs import LIMIT, check_schedule, order_of_rounds
from drawerways.states import begun, is_quiet
from drawerways.steps import step


class Cabinet:
    """What was done in a run, and the STATE behind each EVENT of it."""

    def __init__(self, tree, *, hands=()):
        self._tree = tree
        self._hands = hands
        self._states = [begun(tree, hands)]
        self._log = []
        self._hints = Hints()

    def step(self, hand):
        """Do a STEP of a hand; tell the EVENT."""
        state, event = step(self.state_now(), hand)
        self._states.append(state)
        self._log.append(event)
        return event

    def run(self, schedule, *, most=LIMIT):
        """Do the STEPS of a SCHEDULE, most at the most; tell the EVENTS."""
        check_schedule(self._hands, schedule)
        return tuple([self.step(hand) for hand in schedule[:most]])

    def until_quiet(self, *, by=()):
        """Do ROUND by ROUND until all is QUIET; tell how many."""
        order = order_of_rounds(self._hands, by)
        many = 0
        while not is_quiet(self.state_now()):
            self.run(order, most=len(order))
            many += 1
        return many

    def back(self, times=1):
        """Take the last EVENTS back; tell them."""
        if not is_number(times) or not 1 <= times <= len(self._log):
            raise NoBack(times)
        taken = tuple(self._log[-times:])
        del self._log[-times:]
        del self._states[-times:]
        return taken

    def then(self, k):
        """Tell the STATE behind the first k EVENTS."""
        if not is_number(k) or k > len(self._log):
            raise NoStep("number")
        return self._states[k]

    def cut_at(self, k):
        """Tell the TREE that a CUT behind the first k EVENTS leaves."""
        return cut(self.then(k))

    def tree_first(self):
        """Tell the TREE of which the cabinet was made."""
        return self._tree

    def hands_first(self):
        """Tell the HANDS of which the cabinet was made."""
        return self._hands

    def state_now(self):
        """Tell the STATE behind all EVENTS."""
        return self._states[-1]

    def log_now(self):
        """Tell the LOG."""
        return tuple(self._log)

    def look(self, way):
        """Tell what "look" of a WAY TELLS, by what is remembered where that holds."""
        return self._hints.ask(self.state_now(), way)

    def __len__(self):
        """Tell how many EVENTS there are."""
        return len(self._log)

    def __str__(self):
        """Tell the texts of the EVENTS, line by line."""
        return str(shown_log(self._log))

    def __eq__(self, other):
        """Tell whether a thing is a cabinet of the same TREE and HANDS with the same LOG."""
        return (
            isinstance(other, Cabinet) and self._tree == other._tree and self._hands == other._hands
            and self._log == other._log
        )

"""The cheapest way over a plank from wall to wall, by boards and joints, and the prices that show it."""

from propfall.fractions import is_pair, is_whole
from propfall.planks import LEFT_REST

LEAST = "least"
NONE = "none"


class Pathways:
    """All ways over a plank from the left wall, by nodes farther and farther to the right, to the right wall.

    Costs tell by their method line the nodes; by first what the first board of
    a way costs, by step what a joint does, None where there is none. Either
    tells (price, part): part is the way's own part of a list that is told of it.
    """

    def __init__(self, costs):
        self._costs = costs
        self._line = costs.line()
        self._nodes = self._line.nodes()
        self._boards = {}
        self._steps = {}
        self._behind = {}

    def _beyond(self, one):
        """Tell a list of the nodes farther to the right than one."""
        place = self._line.place_of(one)
        return [node for node in self._nodes if place < self._line.place_of(node)]

    def _next_nodes(self, one):
        """Tell a list of the nodes to which a board leads from one."""
        if one not in self._boards:
            self._boards[one] = [node for node in self._beyond(one) if self._line.is_board(one, node)]
        return self._boards[one]

    def _joints(self, one, middle):
        """Tell a list of tuples (other, price, part): the joints behind a board, and what each costs."""
        if (one, middle) not in self._steps:
            found = []
            for other in self._next_nodes(middle):
                step = self._costs.step(one, middle, other)
                if step is not None:
                    found.append((other, step[0], step[1]))
            self._steps[(one, middle)] = found
        return self._steps[(one, middle)]

    def _is_end(self, node):
        """Tell whether a node is the right wall."""
        return node == self._nodes[-1]

    def _rest(self, one, middle):
        """Tell the least (price, parts) behind a board, as a list of none or one."""
        if self._is_end(middle):
            return [(0, [])]
        if (one, middle) not in self._behind:
            found = []
            for other, price, part in self._joints(one, middle):
                # Two lists that begin alike stand as the rest of them do.
                found += [(price + dear, part + parts) for dear, parts in self._rest(middle, other)]
            self._behind[(one, middle)] = [min(found)] if found else []
        return self._behind[(one, middle)]

    def cheapest(self):
        """Tell the least (price, parts) of a way from wall to wall, as a list of none or one."""
        found = []
        for other in self._next_nodes(LEFT_REST):
            price, part = self._costs.first(other)
            found += [(price + dear, part + parts) for dear, parts in self._rest(LEFT_REST, other)]
        return [min(found)] if found else []

    def prices(self):
        """Tell a dict from each board that a way may come to, to the least price of the ways to it."""
        found = {(LEFT_REST, other): self._costs.first(other)[0] for other in self._next_nodes(LEFT_REST)}
        for middle in self._nodes:
            # All boards to it are known by now, as they come from the left.
            boards = [(board[0], price) for board, price in found.items() if board[1] == middle]
            for one, price in boards:
                for other, dear, _ in self._joints(one, middle):
                    known = found.get((middle, other), price + dear)
                    found[(middle, other)] = min(known, price + dear)
        return found

    def _is_price(self, board, price):
        """Tell whether things of any kind are two nodes, the other one farther to the right, and a price."""
        if not is_pair(board) or not is_whole(price) or price < 0:
            return False
        one, other = board
        if not is_whole(one) or not is_whole(other) or other not in self._nodes:
            return False
        if one != LEFT_REST and one not in self._nodes:
            return False
        return self._line.place_of(one) < self._line.place_of(other)

    def _bars(self, prices):
        """Tell whether prices of such a form are nowhere above what comes ahead of them."""
        for other in self._next_nodes(LEFT_REST):
            if (LEFT_REST, other) not in prices or prices[(LEFT_REST, other)] > self._costs.first(other)[0]:
                return False
        for one, middle in prices:
            if middle in self._next_nodes(one):
                for other, dear, _ in self._joints(one, middle):
                    most = prices[(one, middle)] + dear
                    if (middle, other) not in prices or prices[(middle, other)] > most:
                        return False
        return True

    def barred(self, thing):
        """Tell, of anything, ("least", number) or ("none",): what it bars as prices, None where it is none."""
        if type(thing) is not dict:
            return None
        if not all([self._is_price(board, price) for board, price in thing.items()]) or not self._bars(thing):
            return None
        ends = [price for board, price in thing.items() if self._is_end(board[1])]
        return (LEAST, min(ends)) if ends else (NONE,)

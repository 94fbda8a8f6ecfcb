"""Queues: what a search can go on from, the most promising first."""

from heapq import heappop, heappush


class Queues:
    """Numbers of steps, with how many takes a row has at least through them, and how many takes lead to them."""

    def __init__(self):
        # Those from which it is known what could lead on straight to the end.
        self._straight = []
        # All others, in two orders. A step counts with the last number of takes only with which it was put there.
        self._far = []
        self._near = []
        self._least = {}
        self._turn = 0

    def put_straight(self, at, least, many):
        """Put a step to those that could lead on straight to the end."""
        heappush(self._straight, (least, -many, at))

    def put(self, at, least, many):
        """Put a step to the others."""
        self._least[at] = least
        heappush(self._far, (least, -many, at))
        heappush(self._near, (least, many, at))

    def best(self, is_stuck):
        """Take out a step of least rows, and tell how many takes these have at least; None for both if there is none.

        Straight ones come first, but last if the search is stuck.
        """
        straight, others = self._straight, self._others()
        last = int(is_stuck)
        if straight and (not others or (straight[0][0], last) < (others[0][0], 1 - last)):
            least, _, at = heappop(straight)
            return at, least
        if not others:
            return None, None
        least, _, at = heappop(others)
        self._least[at] = None
        return at, least

    def _others(self):
        """The other steps, in turn such that those behind most takes come first, and those behind fewest."""
        self._turn += 1
        queue = self._far if self._turn % 2 else self._near
        while queue and self._least[queue[0][-1]] != queue[0][0]:
            heappop(queue)
        return queue

"""Least chains of steps: each step leads from one point to another one, and has a size, of any sign, and a label."""


class Chains:
    """The least chains to all points to which steps (START, END, SIZE, LABEL) lead, by rounds over all steps.

    `begun` has the points where chains begin, each with the size that it begins with; `many` is the number of points.
    """

    def __init__(self, steps, begun, many):
        self.sizes = {point: begun[point] for point in begun}
        self._lasts = {}
        self._many = many
        self._moved = None
        # A chain that goes over a point twice is no less than one that does not, unless there is a ring.
        for _ in range(many):
            self._moved = self._extended(steps)

    def has_ring(self):
        """Whether steps lead from a point back to it with a size below 0."""
        return self._moved is not None

    def ring(self):
        """The labels of the steps of a ring, if there is one."""
        point = self._moved
        for _ in range(self._many):
            point = self._lasts[point][0]
        last = self._lasts[point]
        return (*self.chain(point, last[0]), last[3])

    def chain(self, point, later):
        """The labels of the steps of the least chain to the second point, from the first one that stands before it."""
        labels = []
        while later != point:
            step = self._lasts[later]
            labels.append(step[3])
            later = step[0]
        return tuple(labels[::-1])

    def _extended(self, steps):
        """Go over all steps once; the last point that has come to a lesser size, None for none."""
        moved = None
        for step in steps:
            start, end, size, _ = step
            if start in self.sizes and self.sizes[start] + size < self.sizes.get(end, self.sizes[start] + size + 1):
                self.sizes[end] = self.sizes[start] + size
                self._lasts[end] = step
                moved = end
        return moved

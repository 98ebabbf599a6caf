"""One page that gets the items of an endless run: when it is split, and which way each split takes the run.

The items that a level gets are counted from 1, and so are its splits: each
one is an item of the level above, one of a run up if it takes the run to the
right part, one of a run down if it leaves it in the left part. So a level
gets a few items of any kinds first, told as a list of tuples (whether they
are of a run up, how many), and then, without end, items of the run's kind.
"""

from leafsplits.progressions import step_at, steps_up_to


def _pace(up, stay, go, ahead, behind):
    """How many splits are not of the kind of the items, how far apart these are, and the further ones."""
    if up:
        return (behind // go, go, stay)
    return (max(ahead - 1, 0) // stay, stay, go)


class Splits:
    """The splits of a page, and then of its part that the run is in.

    `early` is a list of tuples (whether they go right, how many, first, apart):
    the item with the first one, and how many items apart the further ones are.
    All later splits are of the run's kind, `up`, and tell `first` and `apart`.
    """

    def __init__(self, kinds, up, page, place):
        most, stay = page
        ahead, behind = place
        go = most + 1 - stay
        self.up = up
        self.early = []
        done = 0
        for kind, many in kinds:
            first = done + most + 1 - ahead - behind
            turned, near, far = _pace(kind, stay, go, ahead, behind)
            later = first + turned * near
            done += many
            others = min(turned, steps_up_to(first, near, done))
            own = steps_up_to(later, far, done)
            self._add(not kind, others, first, near)
            self._add(kind, own, later, far)
            held = ahead + behind + many - others * near - own * far
            if kind:
                behind -= others * near
                ahead = held - behind
            else:
                ahead -= others * near
                behind = held - ahead
        first = done + most + 1 - ahead - behind
        turned, near, self.apart = _pace(up, stay, go, ahead, behind)
        self._add(not up, turned, first, near)
        self.first = first + turned * near

    def _add(self, kind, many, first, apart):
        """Adds so many early splits, if there are any."""
        if many > 0:
            self.early.append((kind, many, first, apart))

    def sides(self, item):
        """How many splits go right and how many stay left up to an item."""
        early = [(kind, min(many, steps_up_to(first, apart, item))) for kind, many, first, apart in self.early]
        right = sum([many for kind, many in early if kind])
        left = sum([many for kind, many in early if not kind])
        late = steps_up_to(self.first, self.apart, item)
        return (right + late, left) if self.up else (right, left + late)

    def item_of(self, count):
        """The item with the so-manieth split."""
        for _, many, first, apart in self.early:
            if count <= many:
                return first + (count - 1) * apart
            count -= many
        return self.first + (count - 1) * self.apart

    def count_at(self, item):
        """The so-manieth split is the one at an item; 0 if there is none."""
        ahead = 0
        for _, many, first, apart in self.early:
            if item <= first + (many - 1) * apart:
                step = step_at(first, apart, item)
                return ahead + step if step > 0 else 0
            ahead += many
        step = step_at(self.first, self.apart, item)
        return ahead + step if step > 0 else 0

    def kinds(self):
        """The few items of any kinds that the level above gets first."""
        found = []
        for kind, many, _, _ in self.early:
            if found and found[-1][0] == kind:
                found[-1] = (kind, found[-1][1] + many)
            else:
                found.append((kind, many))
        # Those of the run's kind that come last begin the endless ones.
        if found and found[-1][0] == self.up:
            found.pop()
        return found


def page_met(kinds, up, page, ahead, size, items):
    """What becomes of a page of a level that gets so many items in all.

    Returns the pages that are there then, as a level tells them, how many
    splits there were, and the first kinds for the level above. The part of a
    split page that the run leaves gets no more items, and it is next to the
    part that the run is in.
    """
    most, stay = page
    go = most + 1 - stay
    # Nearly all pages that a run meets are split in its own kind alone. These
    # are told apart first, as a run may meet a page on very many levels.
    if not kinds:
        first = most + 1 - size
        if up and ahead + first > stay:
            right = steps_up_to(first, stay, items)
            return (((stay, right), (size + items - right * stay, 1)), right, kinds)
        if not up and ahead <= stay:
            left = steps_up_to(first, go, items)
            return (((size + items - left * go, 1), (go, left)), left, kinds)
    splits = Splits(kinds, up, page, (ahead, size - ahead))
    right, left = splits.sides(items)
    pages = ((stay, right), (size + items - right * stay - left * go, 1), (go, left))
    return (pages, right + left, splits.kinds())

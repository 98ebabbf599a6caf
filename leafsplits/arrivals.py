"""When a level gets its new items in a run that never ends.

A split of a page is an insert into the level above: one of a run up if it
takes the run to the right part, else one of a run down.
"""


def _put(kind, many, ahead, behind):
    """How many items are ahead of and behind a run's place when so many are put there."""
    if kind == "up":
        return (ahead + many, behind)
    return (ahead, behind + many)


def _split(stays, ahead, behind):
    """The kind of a split, and how many items are ahead of and behind the run's place then."""
    if ahead > stays:
        return ("up", ahead - stays, behind)
    return ("down", ahead, stays - ahead)


class Arrivals:
    """The inserts of a run at which a level gets an item: single ones, then a progression.

    `single` is a list of tuples (moment, kind). All that come later are of
    one `kind`: at the insert `first`, and then each so many inserts `apart`.
    """

    def __init__(self, single, kind, first, apart):
        self.single = single
        self.kind = kind
        self.first = first
        self.apart = apart

    def many(self, number):
        """How many items the level gets in so many inserts."""
        return self.many_of("up", number) + self.many_of("down", number)

    def many_of(self, kind, number):
        """How many items of one kind the level gets in so many inserts."""
        found = len([moment for moment, other in self.single if moment <= number and other == kind])
        if kind == self.kind and number >= self.first:
            found += (number - self.first) // self.apart + 1
        return found

    def moment(self, count):
        """The insert at which the level gets its so-manieth item, counted from 1."""
        if count <= len(self.single):
            return self.single[count - 1][0]
        return self.first + (count - len(self.single) - 1) * self.apart

    def has(self, insert):
        """Whether the level gets an item at an insert."""
        if insert < self.first:
            return insert in [moment for moment, _ in self.single]
        return (insert - self.first) % self.apart == 0

    def passed_on(self, most, stay, ahead, behind):
        """The arrivals of the level above: the splits of the page that gets these items.

        The page holds at most so many items, so many stay when it is split,
        and so many are ahead of the run's place and behind it before the run.
        """
        single = []
        for moment, kind in self.single:
            ahead, behind = _put(kind, 1, ahead, behind)
            if ahead + behind > most:
                split, ahead, behind = _split(stay, ahead, behind)
                single.append((moment, split))
        moment = self.first - self.apart
        while True:
            missing = most + 1 - ahead - behind
            moment += missing * self.apart
            ahead, behind = _put(self.kind, missing, ahead, behind)
            split, ahead, behind = _split(stay, ahead, behind)
            # A run goes right where few items are behind it, and stays left
            # where few are ahead: a split of its own kind leaves these as
            # they are, so all further splits are of this kind, too.
            if split == self.kind:
                break
            single.append((moment, split))
        return Arrivals(single, self.kind, moment, (most + 1 - ahead - behind) * self.apart)

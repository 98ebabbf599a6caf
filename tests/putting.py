"""A model of an index: real pages with real entries, put in and taken out one by one."""


class Page:
    """A page with its items: entries, or pages of the level below."""

    def __init__(self, items, above=None):
        self.items = items
        self.above = above


class Put:
    """An index of pages that are split just as the document tells it."""

    def __init__(self, numbers, levels):
        self.leaf, self.leaf_stays, self.inner, self.inner_stays = numbers
        self.named = sum(size * times for size, times in levels[0])
        self.entries = list(range(self.named))
        self.home = {}
        items = list(self.entries)
        for at, level in enumerate(levels):
            pages = []
            for size, times in level:
                for _ in range(times):
                    pages.append(Page(items[:size]))
                    self.take_in(pages[-1], at == 0)
                    items = items[size:]
            items = pages
        self.root, = items

    def take_in(self, page, is_leaf):
        """Tells all items of a page where they are."""
        for item in page.items:
            if is_leaf:
                self.home[item] = page
            else:
                item.above = page

    def pages(self):
        """The pages, a list for each level, the leaves first."""
        found = [[self.root]]
        while found[0][0].items and isinstance(found[0][0].items[0], Page):
            found.insert(0, [item for page in found[0] for item in page.items])
        return found

    def sizes(self):
        """The sizes of all pages, a list for each level."""
        return [[len(page.items) for page in pages] for pages in self.pages()]

    def counts(self):
        """The number of pages of each level."""
        return [len(pages) for pages in self.pages()]

    def insert(self, place):
        """Puts an entry right behind another one, or to the front if that is None.

        Returns the new entry and how many levels are split.
        """
        entry = self.named
        self.named += 1
        if place is None:
            leaf = self.root
            while leaf.items and isinstance(leaf.items[0], Page):
                leaf = leaf.items[0]
            leaf.items.insert(0, entry)
            self.entries.insert(0, entry)
        else:
            leaf = self.home[place]
            leaf.items.insert(leaf.items.index(place) + 1, entry)
            self.entries.insert(self.entries.index(place) + 1, entry)
        self.home[entry] = leaf
        return entry, self.split(leaf, True)

    def split(self, page, is_leaf):
        """Splits a page with an item too many, and the pages above; how many levels those are."""
        most, stays = (self.leaf, self.leaf_stays) if is_leaf else (self.inner, self.inner_stays)
        if len(page.items) <= most:
            return 0
        new = Page(page.items[stays:], page.above)
        page.items = page.items[:stays]
        self.take_in(new, is_leaf)
        if page.above is None:
            self.root = Page([page, new])
            page.above = new.above = self.root
            return 1
        page.above.items.insert(page.above.items.index(page) + 1, new)
        return 1 + self.split(page.above, False)

    def place(self, gap):
        """The entry right ahead of a gap."""
        return self.entries[gap - 1] if gap > 0 else None

    def run(self, kind, gap, number):
        """Does a run, and returns how many levels are split at each of its inserts."""
        place = self.place(gap)
        found = []
        for _ in range(number):
            entry, split = self.insert(place)
            found.append(split)
            if kind == "up":
                place = entry
        return found

    def drop(self, first, last):
        """Takes entries out, then all pages without items, then the levels above a single page."""
        gone = set(self.entries[first - 1:last])
        del self.entries[first - 1:last]
        levels = self.pages()
        for page in levels[0]:
            page.items = [entry for entry in page.items if entry not in gone]
        for pages in levels[1:]:
            for page in pages:
                page.items = [item for item in page.items if item.items]
        kept = [[page for page in pages if page.items] for pages in levels]
        alone = [pages[0] for pages in kept if len(pages) == 1]
        self.root = alone[0] if alone else Page([])
        self.root.above = None

    def step(self, step):
        """Does a step of a script."""
        word, first, second = step
        if word == "drop":
            self.drop(first, second)
        else:
            self.run(word, first, second)

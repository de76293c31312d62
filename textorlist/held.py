"""What runs hold: parts of their values, in wraps."""

from textorlist.values import kind_of


class Held:
    """A value in a run: the part at a place of the value of the run, in so many wraps."""

    def __init__(self, part, place, wraps, torn):
        self.part = part
        self.place = place
        self.wraps = wraps
        self.torn = torn

    def kind(self):
        """The kind of this value."""
        return "list" if self.wraps else kind_of(self.part)

    def length(self):
        """The number of its letters or items; it is not nothing."""
        return 1 if self.wraps else len(self.part)

    def inner(self):
        """A list of its letters or items; it is not nothing."""
        if self.wraps:
            return [Held(self.part, self.place, self.wraps - 1, self.torn)]
        of_text = self.kind() == "text"
        if of_text and len(self.part) == 1:
            # The letter of a text of one letter is this text itself, at the same place.
            return [self]
        return [Held(self.part[at], (*self.place, at), 0, of_text) for at in range(len(self.part))]

    def given(self, form):
        """What an E or A of this form gives, with this as the value of its variable."""
        if form == "wrap" or (form != "plain" and self.kind() == "text"):
            return Held(self.part, self.place, self.wraps + 1, self.torn)
        if form == "some" and self.kind() == "nothing":
            # This empty list is no part of the run's value; nobody asks for its place.
            return Held([], (), 0, False)
        return self

    def is_full(self):
        """Whether it is neither nothing nor an empty text or list."""
        return self.wraps > 0 or bool(self.part)

    def stands_like(self, other):
        """Whether it is the same part in as many wraps."""
        return self.place == other.place and self.wraps == other.wraps

    def is_key(self, key):
        """Whether it is the key."""
        return self.wraps == 0 and self.part == key

    def has_key(self, key):
        """Whether the key is a piece of this text, or an item of this list; it is not nothing."""
        if self.wraps:
            return self.wraps == 1 and self.part == key
        return key in self.part

    def value(self):
        """The part in its wraps; its lists are those of the value of the run."""
        made = self.part
        for _ in range(self.wraps):
            made = [made]
        return made

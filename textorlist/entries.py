"""Entries: rows of values in which a text is one entry and never comes apart."""

from textorlist.errors import NoEntry, NotText
from textorlist.values import check_value, is_value, is_whole_number
from textorlist.walks import all_parts, copy_of, outline_of, shown


def entries_of(value):
    """A new list of the entries of a value, themselves not copied."""
    if value is None:
        return []
    if isinstance(value, str):
        return [value]
    return list(value)


def check_index(rows, at):
    """Raises NoEntry if any value is not an index in the rows, counted from either end."""
    if not is_whole_number(at) or not -len(rows) <= at < len(rows):
        raise NoEntry(at)


class Entries:
    """The entries of a value, in a row; adding a value adds the entries of this value."""

    def __init__(self, value):
        check_value(value)
        self._rows = copy_of(entries_of(value))

    @classmethod
    def of(cls, *values):
        """These values as entries, each of them one entry."""
        return cls(list(values))

    def __add__(self, other):
        if isinstance(other, Entries):
            return Entries(self._rows + other._rows)
        if not is_value(other):
            return NotImplemented
        return Entries(self._rows + entries_of(other))

    def __radd__(self, other):
        if not is_value(other):
            return NotImplemented
        return Entries(entries_of(other) + self._rows)

    def __iadd__(self, other):
        if not isinstance(other, Entries) and not is_value(other):
            return NotImplemented
        more = other._rows if isinstance(other, Entries) else entries_of(other)
        self._rows = self._rows + copy_of(more)
        return self

    def __mul__(self, other):
        if not is_whole_number(other):
            return NotImplemented
        # A list is not repeated -10 ** 20 times, but a range of this many is just empty.
        return Entries([row for _ in range(other) for row in self._rows])

    def __rmul__(self, other):
        return self * other

    def __len__(self):
        return len(self._rows)

    def __bool__(self):
        return bool(self._rows)

    def __contains__(self, x):
        return is_value(x) and outline_of(x) in [outline_of(row) for row in self._rows]

    def __getitem__(self, at):
        check_index(self._rows, at)
        return copy_of(self._rows[at])

    def __setitem__(self, at, worth):
        check_index(self._rows, at)
        check_value(worth)
        self._rows[at] = copy_of(worth)

    def set_entry(self, at, value):
        """Puts a value in the place of an entry."""
        self[at] = value

    def __iter__(self):
        return iter(self._rows)

    def __eq__(self, other):
        return isinstance(other, Entries) and outline_of(self._rows) == outline_of(other._rows)

    def __repr__(self):
        return f"Entries({shown(self._rows)})"

    def listed(self):
        """A list of the entries."""
        return copy_of(self._rows)

    def packed(self):
        """A value with these entries, without a list around it where none is needed."""
        if not self._rows:
            return None
        if len(self._rows) == 1 and isinstance(self._rows[0], str):
            return self._rows[0]
        return copy_of(self._rows)

    def joined(self, between):
        """One string of all entries, which must be texts, with a string between two of them."""
        for at, row in enumerate(self._rows):
            if not isinstance(row, str):
                raise NotText(at)
        return between.join(self._rows)

    def flat(self):
        """All texts among the entries and in them, at any depth, in order."""
        for part in all_parts(self._rows):
            if isinstance(part, str):
                yield part

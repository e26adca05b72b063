"""Texts of data, read piece by piece."""

from sieveways.data import MOST_LEVELS, MOST_PARTS
from sieveways.reading import Reader


def datum_read(text):
    """What a text of a datum tells."""
    reader = DatumReader(text)
    datum = reader.read_part(1)
    if reader.piece().kind != "end":
        reader.refuse()
    return datum


class DatumReader(Reader):
    """A text of a datum that is read, with the number of its parts."""

    def __init__(self, text):
        super().__init__(text)
        self.many_parts = 0

    def read_part(self, level):
        """A datum that stands so deep."""
        if self.many_parts == MOST_PARTS or level > MOST_LEVELS:
            self.refuse()
        self.many_parts += 1
        if self.is_at("["):
            return self._list(level)
        return self._dict(level) if self.is_at("{") else self.expect_leaf()

    def _list(self, level):
        self.taken()
        found = []
        while not self.is_at("]"):
            if found:
                self.expect(";")
            found.append(self.read_part(level + 1))
        self.taken()
        return found

    def _dict(self, level):
        self.taken()
        found = {}
        while not self.is_at("}"):
            if found:
                self.expect(";")
            key = self.expect_other("word", found)
            self.expect(":")
            found[key] = self.read_part(level + 1)
        self.taken()
        return found

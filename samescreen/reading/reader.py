"""Bytes that are read as deeds, all at once or in pieces."""

from samescreen.deeds.meaning import (
    ESCAPE, MOST_NUMBER, char_of_byte, deed_of_byte, deed_of_letter, deed_of_sign,
)


class Reader:
    """Reads bytes as deeds; what it read before decides what the next byte means."""

    def __init__(self):
        self.tail = []
        self.numbers = []
        self.span_start = 0
        self.byte_count = 0
        self.deed_count = 0

    def feed(self, part):
        """Read further bytes; return the deeds that end in them."""
        return [span[2] for span in self.feed_spans(part)]

    def rest(self):
        """Return the bytes of the sequence that is open."""
        return list(self.tail)

    def taken(self):
        """Return the number of all bytes so far."""
        return self.byte_count

    def given(self):
        """Return the number of deeds that were returned."""
        return self.deed_count

    def copy(self):
        """Return an independent reader in the same state."""
        twin = Reader()
        twin.tail = list(self.tail)
        twin.numbers = list(self.numbers)
        twin.span_start = self.span_start
        twin.byte_count = self.byte_count
        twin.deed_count = self.deed_count
        return twin

    def feed_spans(self, part):
        """Read further bytes; return the deeds that end in them with their spans."""
        found = []
        for byte in part:
            deed = self.deed_at(byte)
            self.byte_count += 1
            if deed is not None:
                found.append((self.span_start, self.byte_count, deed))
        self.deed_count += len(found)
        return found

    def deed_at(self, byte):
        """Read the next byte; return the deed that ends with it, or None."""
        if len(self.tail) == 0:
            return self.deed_of_first(byte)
        if len(self.tail) == 1:
            return self.deed_of_second(byte)
        return self.deed_of_later(byte)

    def deed_of_first(self, byte):
        """Read a byte as if nothing stood before it."""
        self.tail = []
        self.span_start = self.byte_count
        if byte == ESCAPE:
            self.tail.append(byte)
        return deed_of_byte(byte)

    def deed_of_second(self, byte):
        """Read the byte behind 27."""
        if byte == ESCAPE:
            return self.deed_of_first(byte)
        if char_of_byte(byte) == "[":
            self.tail.append(byte)
            self.numbers = [0]
            return None
        self.tail = []
        return deed_of_sign(byte)

    def deed_of_later(self, byte):
        """Read a byte behind the bracket of a long sequence."""
        char = char_of_byte(byte)
        if char.isdigit():
            self.tail.append(byte)
            # What counts as the greatest number anyway need not be known further.
            self.numbers[-1] = min(self.numbers[-1] * 10 + int(char), MOST_NUMBER)
            return None
        if char == ";":
            self.tail.append(byte)
            self.numbers.append(0)
            return None
        if char.isalpha():
            self.tail = []
            return deed_of_letter(char, self.numbers)
        return self.deed_of_first(byte)


def read(data):
    """Return the deeds of a list of bytes."""
    return Reader().feed(data)


def spans(data):
    """Return the deeds of a list of bytes, each behind the start and the stop of its span."""
    return Reader().feed_spans(data)


def rest_of(data):
    """Return the bytes of the sequence that is open at the end."""
    reader = Reader()
    reader.feed(data)
    return reader.rest()

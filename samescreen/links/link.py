"""Links: the bytes of a painter on their way to a viewer."""

from samescreen.links.painter import Painter
from samescreen.reading.viewer import Viewer


class Link:
    """A painter, a viewer, and between them the bytes that are not carried yet."""

    def __init__(self, rows, columns):
        self.painter = Painter(rows, columns)
        self.channel = []
        self.viewer = Viewer(rows, columns)

    def paint(self, target):
        """Let the painter paint a target."""
        self.channel.extend(self.painter.paint(target))

    def do(self, deed):
        """Let the painter do a deed."""
        self.channel.extend(self.painter.do(deed))

    def carry(self, count):
        """Move the first bytes of the channel to the viewer; return the deeds that they complete."""
        part = self.channel[:count]
        self.channel = self.channel[count:]
        return self.viewer.follow(part)

    def pending(self):
        """Return the number of bytes in the channel."""
        return len(self.channel)

    def present(self):
        """Return the present screen of the painter."""
        return self.painter.screen()

    def shown(self):
        """Return the screen of the viewer."""
        return self.viewer.screen()

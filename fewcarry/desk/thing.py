"""What a desk holds under a name."""


class Thing:
    """A book, or a net with the book of its lines, and the watch that follows it.

    A deed makes a new thing and leaves the old one as it is, so that it can be taken back.
    `made` tells how many deeds had been done when the name was given.
    """

    def __init__(self, made, net, watch):
        self.made = made
        self.net = net
        self.watch = watch

    def is_net(self):
        """Whether it is a net."""
        return self.net is not None

    def kind(self):
        """The text book or net."""
        return "net" if self.is_net() else "book"

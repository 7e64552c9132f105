"""Blocks at whose end a database is again as it was."""


class Trial:
    """What `with` needs to revert all that is done in its block."""

    def __init__(self, base):
        self._base = base
        self._held = None

    def __enter__(self):
        base = self._base
        self._held = Held(base.store, self._held)
        # The fork has no steps, so nothing from before the block can be undone in it.
        base.store = base.store.fork()
        return base

    def __exit__(self, kind, value, trace):
        self._base.store = self._held.store
        self._held = self._held.before


class Held:
    """The store that waits for the end of a block, and what the same trial held before."""

    def __init__(self, store, before):
        self.store = store
        self.before = before

"""LOGS REPLAYED."""

from pathfolios.store import Store


def replayed(log):
    """A new STORE at which the deeds of a LOG were done; or as the first that is refused."""
    store = Store(log[0][1])
    store.do_all(log[1:])
    return store

"""Databases for tests: stores and sessions over new disks, and what they hold."""

from tablestack.disk import Disk
from tablestack.errors import TableError
from tablestack.pager import format_disk, recover
from tablestack.parser import parse
from tablestack.schema import declared_table
from tablestack.server import Session, connect
from tablestack.store import Store


def store_with(*texts, size=400, capacity=16):
    """Return a store with tables that statements create."""
    store = Store(format_disk(Disk(size), capacity))
    for text in texts:
        table, indexes = declared_table(parse(text))
        store.create_table(table, indexes)
    return store


def made_anew(store):
    """Return the store of a disk on which all changes were kept."""
    store.pager.commit(store.pager.last_stamp() + 1)
    return Store(recover(store.pager.disk.restarted((), 0)))


def session_with(*texts, size=400, capacity=16, options=None):
    """Return a session over a new disk in which statements were carried out."""
    session = connect(Disk(size), capacity, options)
    for text in texts:
        session.run(text)
    return session


def beside(session, options=None):
    """Return another session over the same engine."""
    return Session(session.engine, options)


def held(engine):
    """Return the catalog and the rows of all tables, as the last commit left them."""
    store = engine.store
    rows = [(name, [row for key, row in store.stores[name].rows_at(engine.stamp)]) for name in sorted(store.stores)]
    return (store.catalog.shown(), rows)


def values(held_rows):
    """Return what is held with rows in the order of their values, since numbers of rows may be others elsewhere."""
    catalog, rows = held_rows
    return (catalog, [(name, sorted(map(repr, some))) for name, some in rows])


def fault_of(session, text):
    """Return the name of the fault that a statement raises, None for none."""
    try:
        session.run(text)
    except TableError as fault:
        return type(fault).__name__
    return None


def reopened(session):
    """Return a session over the disk as it is found after a crash that keeps nothing unsynced."""
    return connect(session.engine.pager.disk.restarted((), 0))

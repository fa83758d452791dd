"""The four kinds of things that have texts: tables, times, webs and counts."""

from cornersure.seats import Counts, counts_told
from cornersure.tables import Table, table_told
from cornersure.times import Times, times_told
from cornersure.webs import Web, web_told

KINDS = ("table", "times", "web", "counts")


def kind_of(value):
    """The kind of a thing: "table", "times", "web" or "counts"; None for any other value."""
    if isinstance(value, Table):
        return "table"
    if isinstance(value, Times):
        return "times"
    if isinstance(value, Web):
        return "web"
    return "counts" if isinstance(value, Counts) else None


def thing_told(kind, text):
    """The thing of this kind whose text this is; raise InvalidText for what is no such text."""
    if kind == "table":
        return table_told(text)
    if kind == "times":
        return times_told(text)
    return web_told(text) if kind == "web" else counts_told(text)

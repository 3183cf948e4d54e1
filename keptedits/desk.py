"""A desk: commands of words for a store, and for questions about its world."""

from keptedits.errors import InvalidCommand, InvalidText
from keptedits.harms import harms
from keptedits.seen import problem
from keptedits.store import Store
from keptedits.texts import document_text, parse_document, value_of, value_text

# How many words the commands have that have always the same number of them.
COUNTS = {"fork": 3, "drop": 2, "undo": 1, "pass": 3, "show": 2, "read": 4, "safe": 3, "seen": 5}


class Desk:
    """A store that is asked and changed by commands."""

    def __init__(self, world):
        self._store = Store(world)

    @property
    def store(self):
        """The store."""
        return self._store

    def run(self, command):
        """Carry out a command; return its answer."""
        words = command.split(" ") if isinstance(command, str) else []
        if not self._is_command(words):
            raise InvalidCommand(command)
        if words[0] in ("put", "set"):
            return self._changed(words)
        if words[0] in ("fork", "drop", "undo"):
            return self._acknowledged(words)
        if words[0] == "merge":
            return self._merged(words[1], words[2], words[3:])
        if words[0] == "pass":
            self._store.step(words[1], words[2])
        if words[0] in ("pass", "show"):
            return document_text(self._store.copy_of(words[1]).document())
        if words[0] == "read":
            value, origin = self._store.copy_of(words[1]).shown(words[2], words[3])
            return f"{value_text(value)} {origin_text(origin)}"
        return self._answered(words)

    def _is_command(self, words):
        """Tell whether words are a command, as far as they tell it by themselves."""
        if not words or "" in words:
            return False
        if words[0] == "put":
            return len(words) >= 3 and self._document_in(words) is not None
        if words[0] == "set":
            return len(words) >= 4 and edit_of_words(words[3:]) is not None
        if words[0] == "merge":
            return len(words) >= 4
        return len(words) == COUNTS.get(words[0])

    def _document_in(self, words):
        try:
            return parse_document(self._store.world, " ".join(words[2:]))
        except InvalidText:
            return None

    def _changed(self, words):
        if words[0] == "put":
            self._store.put(words[1], self._document_in(words))
            return "ok"
        return value_text(self._store.step(words[1], words[2], edit_of_words(words[3:])))

    def _acknowledged(self, words):
        if words[0] == "fork":
            self._store.fork(words[1], words[2])
        elif words[0] == "drop":
            self._store.drop(words[1])
        else:
            self._store.undo()
        return "ok"

    def _merged(self, new, program, names):
        asked = self._store.join_for(new, program, names).asked()
        if asked:
            return " ".join(["asked"] + [f"{name}.{own}" for name, own in asked])
        self._store.merge(new, program, names)
        return document_text(self._store.copy_of(new).document())

    def _answered(self, words):
        world = self._store.world
        if words[0] == "safe":
            kinds = [harm[0] for harm in harms(world, words[1], words[2])]
            return " ".join(kinds) if kinds else "yes"
        found = problem(world, words[1], words[2], words[3], words[4])
        return "yes" if found is None else " ".join([found[0]] + found[1])


def edit_of_words(words):
    """Return the edit that words OWN=VALUE tell, None if they are no such words or name an own field twice."""
    found = {}
    for word in words:
        own, sign, told = word.partition("=")
        value = value_of(told)
        if sign == "" or own in found or (value is None and told != "-"):
            return None
        found[own] = value
    return found


def origin_text(origin):
    """Return the text of an origin: the number of a hand, "root", "made", or "-" for none."""
    if origin is None:
        return "-"
    return str(origin[1]) if origin[0] == "hand" else origin[0]

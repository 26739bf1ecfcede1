"""A store: programs with their entries, and assertions of them, while they are edited, undone and tried out."""

from termpaths.base.checks import is_index
from termpaths.base.terms import is_integer
from termpaths.errors import Broken, InvalidEdit, InvalidNumber, NothingToUndo, UnknownName
from termpaths.store.assertions import is_known, status_of
from termpaths.store.edits import edited


class Saved:
    """What a store goes back to if an error leaves a block, and what the block around it goes back to."""

    def __init__(self, history, outer):
        self.history = history
        self.outer = outer


class Store:
    """Programs under names, each with an entry, and a list of assertions."""

    def __init__(self):
        # The history is never changed, only replaced: the contents before all groups and after each of them, the
        # groups in effect, and pairs of a group that can be made again and the contents after it.
        self._history = ((({}, ()),), (), ())
        self._floor = 0
        self._saved = None

    def apply(self, *edits):
        """Make edits as one group, and return the number of groups in effect."""
        return self._make(edits, False)

    def apply_all(self, edits):
        """Make the edits of a tuple as one group, and return the number of groups in effect."""
        return self._make(edits, False)

    def undo(self, *, many=1):
        """Take the last groups back, and return the number of groups in effect."""
        _check_many(many)
        contents, groups, undone = self._history
        if many > len(groups) - self._floor:
            raise NothingToUndo(many)
        left = len(groups) - many
        back = [(groups[k], contents[k + 1]) for k in range(left, len(groups))]
        self._history = (contents[:left + 1], groups[:left], (*back, *undone))
        return left

    def redo(self, *, many=1):
        """Make the groups again that were taken back last, and return the number of groups in effect."""
        _check_many(many)
        contents, groups, undone = self._history
        if many > len(undone):
            raise NothingToUndo(many)
        again = undone[:many]
        contents = (*contents, *[after for _, after in again])
        groups = (*groups, *[group for group, _ in again])
        self._history = (contents, groups, undone[many:])
        return len(groups)

    def trial(self, edits, call):
        """Make a tuple of edits as one group, return what a call gives, and take back everything since."""
        return self._try(edits, call, False)

    def attempt(self, call):
        """Return what a call gives; if it raises an error, the store is as before."""
        saved = self._history
        done = None
        try:
            result = call(self)
            done = True
        finally:
            if done is None:
                self._history = saved
        return result

    def status(self, index):
        """Return whether the assertion with an index is kept, with a paper if it is not."""
        known, assertions = self._contents()
        if not is_index(index, len(assertions)):
            raise InvalidNumber(index)
        return status_of(known, assertions[index])

    def broken(self):
        """Yield the indices and the status of all assertions that are not kept, in order."""
        known, assertions = self._contents()
        for index, assertion in enumerate(assertions):
            told = status_of(known, assertion)
            if told[0] == "broken":
                yield (index, told)

    @property
    def programs(self):
        """A new dict from the names to the programs."""
        known, _ = self._contents()
        return {name: known[name][0] for name in sorted(set(known))}

    @property
    def assertions(self):
        """The assertions, in order."""
        return self._contents()[1]

    def entry(self, name):
        """Return the entry pattern of a program."""
        return self._told(name)[1]

    def log(self):
        """Return the groups in effect."""
        return self._history[1]

    def _contents(self):
        return self._history[0][-1]

    def _told(self, name):
        """Return a program and its entry pattern."""
        known, _ = self._contents()
        if not is_known(known, name):
            raise UnknownName(name)
        return known[name]

    def _make(self, edits, strict):
        """Make a tuple of edits as one group, in a strict store only if all assertions are kept behind it."""
        if not isinstance(edits, tuple):
            raise InvalidEdit("the edits are not a tuple")
        contents, groups, _ = self._history
        if not edits:
            return len(groups)
        made = contents[-1]
        for edit in edits:
            made = edited(made, edit)
        if strict:
            _check_kept(made)
        self._history = ((*contents, made), (*groups, edits), ())
        return len(groups) + 1

    def _try(self, edits, call, strict):
        """Make a tuple of edits, as told, return what a call gives, and take back everything since."""
        saved = self._history
        floor = self._floor
        try:
            self._make(edits, strict)
            contents, groups, _ = self._history
            self._history = (contents, groups, ())
            self._floor = len(saved[1])
            result = call(self)
        finally:
            self._history = saved
            self._floor = floor
        return result

    def __enter__(self):
        self._saved = Saved(self._history, self._saved)
        return self

    def __exit__(self, kind, value, trace):
        saved = self._saved
        if kind is not None:
            self._history = saved.history
        self._saved = saved.outer

    def __getitem__(self, name):
        return self._told(name)[0]

    def __iter__(self):
        raise TypeError("a store cannot be iterated")

    def __contains__(self, value):
        return is_known(self._contents()[0], value)

    def __len__(self):
        return len(self._contents()[0])

    def __eq__(self, other):
        return isinstance(other, Store) and self._contents() == other._contents()

    def __str__(self):
        known, assertions = self._contents()
        return f"store with {len(known)} programs, {len(assertions)} assertions"


class StrictStore(Store):
    """A store in which no group is made that leaves an assertion that is not kept."""

    def apply(self, *edits):
        """Make edits as one group, and return the number of groups in effect."""
        return self._make(edits, True)

    def apply_all(self, edits):
        """Make the edits of a tuple as one group, and return the number of groups in effect."""
        return self._make(edits, True)

    def trial(self, edits, call):
        """Make a tuple of edits as one group, return what a call gives, and take back everything since."""
        return self._try(edits, call, True)


def _check_many(many):
    if not is_integer(many) or many < 0:
        raise InvalidNumber(many)


def _check_kept(contents):
    """Raise Broken with the index of the first assertion that is not kept."""
    known, assertions = contents
    for index, assertion in enumerate(assertions):
        if status_of(known, assertion)[0] == "broken":
            raise Broken(index)

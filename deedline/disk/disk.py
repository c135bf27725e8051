"""A disk that can lose its power at any step, and what is found on it then."""

from deedline.base.hashes import check_signs
from deedline.base.words import check_count, check_key, check_within, is_within
from deedline.errors import InvalidOperation, PowerLost, UnknownName
from deedline.shape.kept import Kept


class File:
    """The signs of a file, and how many of them are synced."""

    def __init__(self, text="", synced=0):
        self.text = text
        self.synced = synced

    def loose(self):
        """How many signs are not synced."""
        return len(self.text) - self.synced


class Disk(Kept):
    """Files with names, changed step by step."""

    def __init__(self, *, steps=None):
        _check_steps(steps)
        self._left = steps
        self._done = 0
        # The dicts from names to files behind just the first so many unsynced name steps: the last one is
        # what the disk has now. They share their files.
        self._states = [{}]

    @property
    def names(self):
        """The ascending tuple of the names of files."""
        return tuple(sorted(self._states[-1]))

    @property
    def name_steps(self):
        """How many name steps are not synced."""
        return len(self._states) - 1

    @property
    def done(self):
        """How many steps were done."""
        return self._done

    @property
    def left(self):
        """How many steps are left, or None."""
        return self._left

    def create(self, name):
        """Makes an empty file with a name, which another file loses."""
        check_key(name)
        self._step()
        self._name_step({**self._states[-1], name: File()})

    def append(self, name, signs):
        """Puts signs behind those of a file."""
        found = self._file(name)
        check_signs(signs)
        self._step()
        found.text += signs

    def sync(self, name):
        """Syncs all signs of a file."""
        found = self._file(name)
        self._step()
        found.synced = len(found.text)

    def rename(self, name, other):
        """Gives a file another name, which another file loses."""
        found = self._file(name)
        check_key(other)
        self._step()
        state = self._without(name)
        state[other] = found
        self._name_step(state)

    def remove(self, name):
        """Takes the name from a file."""
        self._file(name)
        self._step()
        self._name_step(self._without(name))

    def sync_names(self):
        """Syncs all name steps."""
        self._step()
        self._states = [self._states[-1]]

    def read(self, name):
        """The signs of a file."""
        return self._file(name).text

    def unsynced(self, name):
        """How many signs of a file are not synced."""
        return self._file(name).loose()

    def names_after(self, many):
        """The dict from names to numbers of unsynced signs if just so many unsynced name steps happen."""
        check_within(many, 0, self.name_steps)
        state = self._states[many]
        return {name: state[name].loose() for name in sorted(state)}

    def after(self, many, signs, *, steps=None):
        """The disk that is found if just so many name steps happen, and so many unsynced signs are there."""
        loose = self.names_after(many)
        if not _are_counts(signs, loose):
            raise InvalidOperation("no dict from these names to numbers of their signs")
        other = Disk(steps=steps)
        state = self._states[many]
        for name in loose:
            found = state[name]
            end = found.synced + signs.get(name, 0)
            other._states[-1][name] = File(found.text[:end], end)
        return other

    def twin(self):
        """An independent equal disk."""
        other = Disk(steps=self._left)
        other._done = self._done
        files = {found: File(found.text, found.synced) for state in self._states for found in state.values()}
        other._states = [{name: files[state[name]] for name in state} for state in self._states]
        return other

    def __contains__(self, value):
        return isinstance(value, str) and value in self._states[-1]

    def _file(self, name):
        """The file with a name."""
        check_key(name)
        if name not in self._states[-1]:
            raise UnknownName(name)
        return self._states[-1][name]

    def _without(self, name):
        """The files that have names, but for one name."""
        state = self._states[-1]
        return {one: state[one] for one in state if one != name}

    def _name_step(self, state):
        """Puts a dict from names to files behind the others."""
        self._states.append(state)

    def _step(self):
        """Takes a step, or loses the power."""
        if self._left == 0:
            raise PowerLost(self._done)
        self._done += 1
        if self._left is not None:
            self._left -= 1


def _check_steps(steps):
    """Raises InvalidNumber if it is no number of steps, and not None."""
    if steps is not None:
        check_count(steps)


def _are_counts(value, most):
    """Whether the value is a dict from some names to integers of at most the number of each."""
    if not isinstance(value, dict):
        return False
    return all([name in most and is_within(many, 0, most[name]) for name, many in value.items()])

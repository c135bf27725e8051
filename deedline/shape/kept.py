"""How objects copy what they keep [0.2]."""


class Kept:
    """An object that can change. Who keeps one, or gives out one that is kept, takes its twin."""

    def twin(self):
        """An independent equal object in the same shape."""
        raise NotImplementedError("each class has its own")


def copied(value):
    """The value with all in it that can change copied."""
    if isinstance(value, Kept):
        return value.twin()
    if isinstance(value, list):
        return [copied(part) for part in value]
    if isinstance(value, tuple):
        return tuple([copied(part) for part in value])
    if isinstance(value, dict):
        return {key: copied(value[key]) for key in value}
    return value

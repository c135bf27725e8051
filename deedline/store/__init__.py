"""The store, and the room that it has."""

"""The shapes in which values are kept."""

"""Deedline: a key store that is one line of deeds."""

"""Copies of a store: nodes, and groups of them."""

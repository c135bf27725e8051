"""Clients of a store: blocks, watches, waiting, and the server."""

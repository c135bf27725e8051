"""A disk that can lose its power, and how a store is kept on it."""

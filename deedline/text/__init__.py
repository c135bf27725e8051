"""Lines of words, and a shell that does them."""

"""Gathermill: a language, its machine, and a heap that is gathered while it runs."""

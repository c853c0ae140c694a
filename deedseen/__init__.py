"""Deedseen: what a deed would do, told from what was merely watched."""

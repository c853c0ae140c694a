"""The tests of deedseen."""

"""Seenmarks: updates that are accepted only if what was read is unchanged."""

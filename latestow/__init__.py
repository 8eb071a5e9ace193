"""Latestow: a file store that never breaks a promise of room."""

"""Snaptree: a tree of names and its snapshots."""

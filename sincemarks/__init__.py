"""Sincemarks: a store of a branching history within bounds."""

"""Duehall: timed deeds, done by one runner of many."""

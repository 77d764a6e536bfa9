"""Cutshows: rows left out of a program, and whether it still shows the same."""

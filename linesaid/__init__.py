"""Linesaid: what is said of lines, and what it forces."""

"""Tiewood: ties at levels, and the work of looking counted."""

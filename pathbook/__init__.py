"""Pathbook: paths walked by sections on many days."""

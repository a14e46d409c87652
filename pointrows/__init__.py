"""Pointrows: points in the plane, the curves through them, and the row of numbers that tells what they hide."""

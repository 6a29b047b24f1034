"""Rows of integers that lose their peaks, round by round."""

"""Tests of the package `peakpeel`."""

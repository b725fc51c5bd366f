"""Fallgain: worths of sets whose gains fall."""

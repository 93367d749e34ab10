"""Numberbooks: blocks of numbers that servers take in turn."""

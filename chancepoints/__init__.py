"""Chancepoints: programs of functions and chances, and the table that each of them is."""

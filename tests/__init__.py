"""The tests of chancepoints."""

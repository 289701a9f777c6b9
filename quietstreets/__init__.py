"""Quietstreets: the fewest signs that keep through traffic out of streets."""

"""Heapsafe: a memory that is cleared in small steps, and the looker that holds it to account."""

"""Handlocks: things handed round under words and last ticks."""

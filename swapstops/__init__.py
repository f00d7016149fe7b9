"""Swapstops: a machine that changes places and goes on."""

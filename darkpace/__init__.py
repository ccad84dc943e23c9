"""Darkpace: hands in the dark, on a dial where nobody overtakes."""

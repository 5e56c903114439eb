"""Calling trees for any number of people."""

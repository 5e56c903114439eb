"""The tests of callsdown."""

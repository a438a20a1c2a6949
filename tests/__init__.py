"""The tests of laytwice."""

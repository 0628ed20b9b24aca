"""Coinyard: sums that coins make, and sums they never make."""

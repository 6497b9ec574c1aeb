"""Evenhall: a house of accounts."""

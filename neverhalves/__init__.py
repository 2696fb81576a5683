"""Boards that are swapped by one rule, and sums that go along and never become fractions."""

"""Everynext: charts in which each place has one next place."""

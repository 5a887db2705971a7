"""Forestrows: ordered forests kept as table rows in three layouts."""

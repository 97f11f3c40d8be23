"""Hourhouse: a house of calendars."""

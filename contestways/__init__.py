"""Strategies of contests, told exactly."""

"""Seats that are divided among parties by divisor methods."""

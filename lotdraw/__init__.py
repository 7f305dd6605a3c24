"""Lotdraw: lots looked at piece by piece."""

"""Roomsback: rooms for results, and when they may be given back."""

"""Stonelay: stones that lie under cells."""

"""Loopcube: closed cords, their cube of openings, and what no move changes."""

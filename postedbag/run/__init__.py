"""Situations and runs."""

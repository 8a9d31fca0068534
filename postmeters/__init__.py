"""Meters and accounts of postage."""

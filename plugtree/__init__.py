"""Plugtree: a serial bus of hubs and things, both sides of it."""

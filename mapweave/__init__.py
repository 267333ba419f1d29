"""Mapweave: maps put together, parted, met and joined."""

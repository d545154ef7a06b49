"""Groupdeeds: groups join, and people leave."""

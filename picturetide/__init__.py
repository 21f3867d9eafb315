"""Picturetide: moving pictures whose damage is told."""

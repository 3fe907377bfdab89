"""Oneleash: two walks on one leash."""

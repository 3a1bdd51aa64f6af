"""Homeslopes: slopes opened and shut by rules, and who may still go up and come home."""

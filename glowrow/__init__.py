"""Glowrow: pictures laid spot by spot as a beam goes."""

"""Seenlots: how many points there can be, for all lots that show no more images than told."""

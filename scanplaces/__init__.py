"""Scans of items, and one history: `scanplaces.places.answers` answers a list of calls."""

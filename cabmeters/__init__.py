"""Cabmeters: what a taximeter tells of a trip, for all trips that fit."""

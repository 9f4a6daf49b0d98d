"""Ringmaze: ways of one piece through rings."""

"""Dueclocks: answering times in opening hours, as exact maps of moments."""

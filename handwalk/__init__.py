"""Handwalk: a walker who exchanges the thing in the hand in every passage."""

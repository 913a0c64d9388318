"""The tests of handwalk."""

"""Hourstairs: nets whose riding times hang on the hour."""

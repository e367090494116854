"""Dunes under two winds, and two books whose order is lost."""

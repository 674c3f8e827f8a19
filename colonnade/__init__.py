"""Colonnade: questions answered on coded columns."""

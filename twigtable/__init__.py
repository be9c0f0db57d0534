"""Twigtable: tables with keys, kept in many makes."""

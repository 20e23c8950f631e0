"""Keytables: tables whose columns hang on one another."""

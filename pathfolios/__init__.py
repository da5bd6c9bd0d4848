"""Pathfolios: a store of documents whole."""

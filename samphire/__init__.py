"""Samphire: samples of streams of weighted items that are merged, whoever chooses how."""

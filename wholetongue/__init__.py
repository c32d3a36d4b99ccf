"""Wholetongue: a small language, whole."""

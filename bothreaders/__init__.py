"""Bothreaders: files for two readers, and how they are washed."""

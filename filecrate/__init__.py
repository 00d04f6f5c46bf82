"""Filecrate: bundles of files as rows of bytes."""

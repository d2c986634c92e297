"""Containers that inject dependencies: import from the files of this package, as README.md shows."""

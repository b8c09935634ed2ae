"""Netfinder: charts, and the nets whose run they are."""

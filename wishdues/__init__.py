"""Wishdues: as many wishes kept as can be, each bound with a paper."""

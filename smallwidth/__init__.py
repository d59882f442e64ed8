"""Smallwidth: formulas on graphs of small width."""

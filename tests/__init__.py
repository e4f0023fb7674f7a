"""Tests of wallplan."""

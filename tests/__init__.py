"""Tests of neverbrush."""

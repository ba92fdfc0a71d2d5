"""Tests of cellrises."""

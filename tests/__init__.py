"""Tests of rateplan."""

"""Tests of bunkmates."""

"""Tests of halflink."""

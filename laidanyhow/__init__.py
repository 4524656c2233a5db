"""Laidanyhow: tiles laid on any land, in any order, by anybody, and nobody is ever stuck."""

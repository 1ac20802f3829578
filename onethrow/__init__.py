"""Onethrow: one joint throw for all beginnings of a machine of chances."""

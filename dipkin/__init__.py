"""Dipkin: rows of numbers that are alike by where their least numbers stand."""

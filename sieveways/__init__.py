"""Sieveways: filters over nested data that give none, one or many outcomes."""

"""Fewfolds: square tables by a prime made of few special ones, with the factors or with a bar."""

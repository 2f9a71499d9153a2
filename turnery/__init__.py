"""Turnery: machines that make trees of trees."""

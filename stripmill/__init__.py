"""Stages of pictures, and plans of making them whole, in place, or strip by strip."""

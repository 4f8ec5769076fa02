"""Doors between unlike nets, by which things cross from kind to kind and back."""

"""Dearestshelf: the lot of things that brings most, for any rule by which buyers choose."""

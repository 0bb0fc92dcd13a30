"""Nested arrays: works on values that are told by texts. The calls are in nestarray.desk."""

"""Roompace: rooms with clocks of their own pace."""

"""Lanternwatch: boats at night, told by their lights."""

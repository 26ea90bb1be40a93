"""Endsandround: which reorderings of commands never matter to a machine."""

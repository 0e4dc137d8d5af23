"""Wholeturn: likenesses of a few that go on to all."""

"""Dealclashes: any rule that deals out things by rankings, and which axioms go together."""

"""Packets and pairings: packets for the games of a quiz, so that no team hears one twice."""

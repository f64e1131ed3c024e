"""Fair shares and chance: players' jobs done by turns, and what they draw."""

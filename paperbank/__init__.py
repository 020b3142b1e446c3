"""Papers set from a bank of questions: plans, clashes, the nearest paper."""

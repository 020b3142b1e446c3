"""Papers set from a bank of questions: plans, clashes, twins, the nearest paper, use over years."""

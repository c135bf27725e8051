"""The plain store: what commands answer and change, stage by stage."""

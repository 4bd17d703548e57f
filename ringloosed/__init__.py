"""RingLoosed: transactions over several houses that lock keys and free themselves from rings of waits."""

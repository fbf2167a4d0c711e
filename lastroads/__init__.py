"""Road network reliability: reachability, travel times, minimum cuts and repairs."""

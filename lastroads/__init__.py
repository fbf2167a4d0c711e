"""Road network reliability: reachability, travel times, routes and cuts."""

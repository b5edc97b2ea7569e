package wellformed

// remembered returns a function that calls another one only once for each key.
func remembered[K comparable, V any](find func(K) V) func(K) V {
	known := map[K]V{}
	return func(key K) V {
		value, ok := known[key]
		if !ok {
			value = find(key)
			known[key] = value
		}
		return value
	}
}

// reached returns what can be reached from a name in one or more steps.
func reached(next func(name string) []string, from string) map[string]bool {
	known := map[string]bool{}
	waiting := next(from)
	for len(waiting) > 0 {
		var behind []string
		for _, name := range waiting {
			if !known[name] {
				known[name] = true
				behind = append(behind, next(name)...)
			}
		}
		waiting = behind
	}
	return known
}

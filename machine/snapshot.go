package machine

import (
	"maps"
	"slices"

	"heddle/api"
)

// Snapshot is what stands under keys.
type Snapshot map[int]int

// Settle lets what a run wrote stand.
func (s Snapshot) Settle(run Run) {
	for key, c := range run.Writes {
		if c.Stands {
			s[key] = c.Value
		} else {
			delete(s, key)
		}
	}
}

// Pairs tells what stands by keys, as a map has no order of its own.
func (s Snapshot) Pairs() []api.Pair {
	pairs := make([]api.Pair, 0, len(s))
	for _, key := range slices.Sorted(maps.Keys(s)) {
		pairs = append(pairs, api.Pair{Key: key, Value: s[key]})
	}
	return pairs
}

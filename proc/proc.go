// Package proc: procedures: see DOC.md.
package proc

import (
	"maps"
	"slices"

	"heddle/api"
)

// Check looks whether a code is a procedure (P3).
func Check(code string) api.Errno {
	if _, ok := decode(code); !ok {
		return api.ErrCode
	}
	return api.OK
}

// Run runs a procedure alone, on what stands under keys (P4).
func Run(code string, pairs []api.Pair) (api.Outcome, []api.Pair, api.Errno) {
	stands, ok := byKey(pairs)
	if !ok {
		return api.Outcome{}, nil, api.ErrArg
	}
	list, ok := decode(code)
	if !ok {
		return api.Outcome{}, nil, api.ErrCode
	}
	m := machine{snapshot: stands, written: map[int]cell{}}
	state := m.run(list)
	settle(stands, m.written)
	return api.Outcome{State: state, Told: m.told}, inOrder(stands), api.OK
}

// byKey answers false if a key is told twice.
func byKey(pairs []api.Pair) (map[int]int, bool) {
	stands := make(map[int]int, len(pairs))
	for _, p := range pairs {
		if _, twice := stands[p.Key]; twice {
			return nil, false
		}
		stands[p.Key] = p.Value
	}
	return stands, true
}

// settle lets what was written stand.
func settle(stands map[int]int, written map[int]cell) {
	for key, c := range written {
		if c.stands {
			stands[key] = c.value
		} else {
			delete(stands, key)
		}
	}
}

// inOrder tells what stands by keys, as a map has no order of its own.
func inOrder(stands map[int]int) []api.Pair {
	pairs := make([]api.Pair, 0, len(stands))
	for _, key := range slices.Sorted(maps.Keys(stands)) {
		pairs = append(pairs, api.Pair{Key: key, Value: stands[key]})
	}
	return pairs
}

package proc_test

import (
	"encoding/binary"
	"maps"
	"slices"
	"testing"

	"heddle/api"
)

// model runs well formed instructions in the plainest way: on a copy of all that stands, dropped by an Abort.
func model(list []string, pairs []api.Pair) row {
	before := map[int]int{}
	for _, p := range pairs {
		before[p.Key] = p.Value
	}
	want := row{state: api.Committed}
	now := maps.Clone(before)
	var r [api.Registers]int
	for at := 0; at < len(list) && want.state == api.Committed; at++ {
		in := list[at] + "\x00\x00\x00"
		x, y, z := in[1]&7, in[2]&7, in[3]&7
		switch in[0] {
		case api.Const:
			r[x] = int(binary.BigEndian.Uint64([]byte(in[2:])))
		case api.Get:
			r[x] = now[r[y]]
		case api.Has:
			_, ok := now[r[y]]
			r[x] = map[bool]int{true: 1}[ok]
		case api.Put:
			now[r[x]] = r[y]
		case api.Del:
			delete(now, r[x])
		case api.Add:
			r[x] = r[y] + r[z]
		case api.Sub:
			r[x] = r[y] - r[z]
		case api.Mul:
			r[x] = r[y] * r[z]
		case api.Less:
			if r[x] < r[y] {
				at += int(in[3])
			}
		case api.Emit:
			want.told = append(want.told, r[x])
		case api.Abort:
			want.state, now = api.RolledBack, before
		}
	}
	for _, k := range slices.Sorted(maps.Keys(now)) {
		want.out = append(want.out, api.Pair{Key: k, Value: now[k]})
	}
	return want
}

// anyInstruction is one of all, with few different keys and numbers, so that they meet; behind is how many come behind it.
func anyInstruction(next func(int) int, behind int) string {
	register := func() byte { return byte(next(api.Registers)) }
	switch kind := byte(1 + next(api.Abort)); kind {
	case api.Const:
		n := []int{0, 1, 2, -1, least, greatest}[next(6)]
		return con(register(), n)
	case api.Get, api.Has, api.Put:
		return op(kind, register(), register())
	case api.Del, api.Emit:
		return op(kind, register())
	case api.Less:
		return op(kind, register(), register(), byte(next(min(behind, 3)+1)))
	case api.Abort:
		if next(4) > 0 { // Else few procedures would get far.
			return op(api.Emit, register())
		}
		return op(kind)
	default:
		return op(kind, register(), register(), register())
	}
}

func TestRunAgainstModel(t *testing.T) {
	next := numbers(2)
	for range 5000 {
		list := make([]string, next(40))
		code := ""
		for i := range list {
			list[i] = anyInstruction(next, len(list)-i-1)
			code += list[i]
		}
		var pairs []api.Pair
		for _, k := range []int{greatest, 2, 0, -1, least} {
			if next(2) == 0 {
				pairs = append(pairs, api.Pair{Key: k, Value: next(5) - 2})
			}
		}
		want := model(list, pairs)
		want.what, want.code, want.in = "against the model", code, pairs
		wantRun(t, want)
	}
}

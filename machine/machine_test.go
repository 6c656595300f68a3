package machine_test

import (
	"encoding/binary"
	"maps"
	"slices"
	"strings"
	"testing"

	"heddle/api"
	"heddle/machine"
)

// con is a Const; op is any other instruction.
func con(r byte, n int) string {
	return string(binary.BigEndian.AppendUint64([]byte{api.Const, r}, uint64(n)))
}

func op(kind byte, operands ...byte) string {
	return string(append([]byte{kind}, operands...))
}

func get(key int) string      { return con(7, key) + op(api.Get, 6, 7) }
func has(key int) string      { return con(7, key) + op(api.Has, 6, 7) }
func put(key, n int) string   { return con(7, key) + con(6, n) + op(api.Put, 7, 6) }
func del(key int) string      { return con(7, key) + op(api.Del, 7) }
func pass(n int) string       { return con(5, 1) + op(api.Less, 0, 5, byte(n)) }
func stays(n int) string      { return op(api.Less, 0, 0, byte(n)) }
func at(n int) machine.Cell   { return machine.Cell{Value: n, Stands: true} }
func abort() string           { return op(api.Abort) }
func distinct(l []int) []int  { return slices.Compact(slices.Sorted(slices.Values(l))) }
func stock() machine.Snapshot { return machine.Snapshot{1: 10, 2: 0, -3: 30} }

type cells = map[int]machine.Cell

// It reads the keys of its Gets and Has, and writes those of its Puts and Dels: see DOC.md, "It runs".
func TestReadsAndWrites(t *testing.T) {
	for _, c := range []struct {
		what, code string
		reads      []int
		writes     cells
		state      int
	}{
		{"nothing", "", nil, nil, api.Committed},
		{"a Get", get(1), []int{1}, nil, api.Committed},
		{"a Get of what does not stand", get(4), []int{4}, nil, api.Committed},
		{"a Has", has(1), []int{1}, nil, api.Committed},
		{"a Has of what does not stand", has(-4), []int{-4}, nil, api.Committed},
		{"a Put", put(1, 5), nil, cells{1: at(5)}, api.Committed},
		{"a Put of what stands so already", put(1, 10), nil, cells{1: at(10)}, api.Committed},
		{"a Del", del(1), nil, cells{1: {}}, api.Committed},
		{"a Del of what does not stand", del(4), nil, cells{4: {}}, api.Committed},
		{"several", get(1) + has(2) + put(3, 1) + get(4) + del(5), []int{1, 2, 4}, cells{3: at(1), 5: {}}, api.Committed},
		{"the same again", get(1) + has(1) + get(1), []int{1}, nil, api.Committed},
		{"read, then put", get(1) + put(1, 4), []int{1}, cells{1: at(4)}, api.Committed},
		{"put, then read", put(1, 4) + get(1), []int{1}, cells{1: at(4)}, api.Committed},
		{"put, then asked for", put(1, 4) + has(1), []int{1}, cells{1: at(4)}, api.Committed},
		{"deleted, then read", del(1) + get(1), []int{1}, cells{1: {}}, api.Committed},
		{"the last one says: Put", del(1) + put(1, 2) + put(1, 3), nil, cells{1: at(3)}, api.Committed},
		{"the last one says: Del", put(1, 2) + del(1), nil, cells{1: {}}, api.Committed},
		{"the key that the register had", get(1) + con(7, 2), []int{1}, nil, api.Committed},
		{"into the key's own register", con(7, 1) + op(api.Get, 7, 7) + op(api.Get, 7, 7), []int{1, 10}, nil, api.Committed},
		{"passed over", con(7, 1) + pass(2) + op(api.Get, 6, 7) + op(api.Put, 7, 7), nil, nil, api.Committed},
		{"not passed over", con(7, 1) + stays(2) + op(api.Get, 6, 7) + op(api.Put, 7, 7), []int{1}, cells{1: at(1)}, api.Committed},
		{"rolled back", get(1) + put(2, 5) + has(3) + del(1) + abort(), []int{1, 3}, nil, api.RolledBack},
		{"rolled back, having read what it put", put(2, 5) + get(2) + abort(), []int{2}, nil, api.RolledBack},
		{"rolled back ahead of all", abort() + get(1) + put(2, 5), nil, nil, api.RolledBack},
		{"other instructions", con(1, 3) + op(api.Add, 2, 1, 1) + op(api.Sub, 2, 1, 1) + op(api.Mul, 2, 1, 1) + op(api.Emit, 2), nil, nil, api.Committed},
		{"the ends of the numbers", get(-1<<63) + put(1<<63-1, 2), []int{-1 << 63}, cells{1<<63 - 1: at(2)}, api.Committed},
	} {
		snapshot := stock()
		run, ok := machine.Execute(c.code, snapshot)
		slices.Sort(c.reads)
		if !ok || !slices.Equal(distinct(run.Reads), c.reads) || !maps.Equal(run.Writes, c.writes) || run.Outcome.State != c.state {
			t.Errorf("%s: %+v, %v, want reads %v, writes %v, state %d", c.what, run, ok, c.reads, c.writes, c.state)
		}
		if !maps.Equal(snapshot, stock()) {
			t.Errorf("%s: the snapshot became %v", c.what, snapshot)
		}
	}
}

// What it tells is told either way.
func TestTold(t *testing.T) {
	code := get(1) + op(api.Emit, 6) + put(1, 4) + get(1) + op(api.Emit, 6)
	for _, end := range []string{"", abort(), abort() + op(api.Emit, 6)} {
		run, ok := machine.Execute(code+end, stock())
		if !ok || !slices.Equal(run.Outcome.Told, []int{10, 4}) {
			t.Errorf("behind %x: %+v, %v", end, run, ok)
		}
	}
}

func TestWhatIsNoProcedure(t *testing.T) {
	for _, code := range []string{"\x00", "\x0c", op(api.Put, 1), op(api.Emit, 8), put(1, 2) + "\xff", op(api.Less, 0, 0, 1), strings.Repeat(abort(), 257)} {
		run, ok := machine.Execute(code, stock())
		if ok || run.Outcome.State != api.Unknown || len(run.Outcome.Told)+len(run.Reads)+len(run.Writes) > 0 {
			t.Errorf("Execute(%x) = %+v, %v", code, run, ok)
		}
		if machine.IsProcedure(code) {
			t.Errorf("%x is a procedure", code)
		}
	}
	for _, code := range []string{"", abort(), put(1, 2), strings.Repeat(abort(), 256)} {
		if !machine.IsProcedure(code) {
			t.Errorf("%x is no procedure", code)
		}
	}
}

func TestSettle(t *testing.T) {
	s := stock()
	s.Settle(machine.Run{Writes: cells{1: {}, 2: at(5), 7: at(0), 8: {}}})
	want := []api.Pair{{Key: -3, Value: 30}, {Key: 2, Value: 5}, {Key: 7}}
	if got := s.Pairs(); !slices.Equal(got, want) {
		t.Errorf("%v, want %v", got, want)
	}
	s.Settle(machine.Run{})
	if got := s.Pairs(); !slices.Equal(got, want) {
		t.Errorf("behind a run that wrote nothing: %v, want %v", got, want)
	}
}

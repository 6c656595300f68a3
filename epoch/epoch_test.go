package epoch

import (
	"maps"
	"slices"
	"strings"
	"testing"

	"heddle/api"
	"heddle/machine"
)

// wantEpoch asks the same of every number of workers.
func wantEpoch(t *testing.T, what string, codes []string, decided, losers []int) {
	t.Helper()
	for workers := 1; workers <= api.MaxWorkers; workers++ {
		got := Run(workers, codes, machine.Snapshot{})
		if !slices.Equal(got.Decided, decided) || !slices.Equal(got.Losers, losers) || len(got.Runs) != len(codes) {
			t.Fatalf("%s, %d workers: decided %v, losers %v, %d runs, want %v, %v", what, workers, got.Decided, got.Losers, len(got.Runs), decided, losers)
		}
	}
}

func TestWhoLoses(t *testing.T) {
	for _, c := range []struct {
		what            string
		codes           []string
		decided, losers []int
	}{
		{"nobody", nil, nil, nil},
		{"one that does nothing", []string{""}, []int{0}, nil},
		{"one that reads what it writes", []string{get(1) + put(1, 1) + get(1)}, []int{0}, nil},
		{"both write: Put, Put", []string{put(1, 1), put(1, 1)}, []int{0}, []int{1}},
		{"both write: Put, Del", []string{put(1, 1), del(1)}, []int{0}, []int{1}},
		{"both write: Del, Put", []string{del(1), put(1, 1)}, []int{0}, []int{1}},
		{"both write: Del, Del", []string{del(1), del(1)}, []int{0}, []int{1}},
		{"both write, far apart", []string{put(1, 1), "", put(2, 2), "", put(1, 1)}, []int{0, 1, 2, 3}, []int{4}},
		{"a smaller one writes what it reads", []string{put(1, 1), get(1)}, []int{1, 0}, nil},
		{"a smaller one writes what it asks for", []string{put(1, 1), has(1)}, []int{1, 0}, nil},
		{"a smaller one deletes what it reads", []string{del(1), get(1)}, []int{1, 0}, nil},
		{"a smaller one reads what it writes", []string{get(1), put(1, 1)}, []int{0, 1}, nil},
		{"a smaller one asks for what it deletes", []string{has(1), del(1)}, []int{0, 1}, nil},
		{"both, by the same", []string{get(1) + put(2, 1), get(2) + put(1, 1)}, []int{0}, []int{1}},
		{"both, by two, the writer first", []string{put(1, 1), get(2), get(1) + put(2, 1)}, []int{0, 1}, []int{2}},
		{"both, by two, the reader first", []string{get(2), put(1, 1), get(1) + put(2, 1)}, []int{0, 1}, []int{2}},
		{"greater ones count not", []string{get(1) + put(2, 1), put(1, 1), get(2)}, []int{2, 0, 1}, nil},
		{"a loser's writes count, as writes", []string{put(1, 1), put(1, 2) + put(2, 2), put(2, 3)}, []int{0}, []int{1, 2}},
		{"a loser's writes count, for those that read", []string{put(1, 1), put(1, 2) + put(2, 2), get(2), get(3)}, []int{2, 0, 3}, []int{1}},
		{"a loser's writes and another's reads", []string{put(1, 1), put(1, 2) + put(2, 2), get(3), get(2) + put(3, 3)}, []int{0, 2}, []int{1, 3}},
		{"a loser's reads count", []string{put(1, 1), put(1, 2) + get(2), get(1) + put(2, 2)}, []int{0}, []int{1, 2}},
		{"a rolled back one writes nothing", []string{put(1, 1) + abort(), put(1, 2), get(3)}, []int{0, 1, 2}, nil},
		{"a rolled back one loses to nobody", []string{put(1, 1), get(2), get(1) + put(1, 1) + put(2, 2) + abort()}, []int{2, 0, 1}, nil},
		{"a rolled back one's reads count", []string{get(2) + abort(), put(1, 1), get(1) + put(2, 2)}, []int{0, 1}, []int{2}},
		{"what it put itself is read too", []string{put(1, 1), put(1, 2) + get(1) + abort()}, []int{1, 0}, nil},
		{"what it deleted itself is read too", []string{put(1, 1), del(1) + has(1) + abort()}, []int{1, 0}, nil},
		{"what a smaller one put itself is read too", []string{put(4, 4), put(2, 2) + get(2) + abort(), get(4) + put(2, 3)}, []int{0, 1}, []int{2}},
		{"passed over: it reads not", []string{put(1, 1), con(1, 1) + lost(op(api.Get, 2, 1)+op(api.Has, 2, 1))}, []int{0, 1}, nil},
		{"passed over: it writes not", []string{put(1, 1), con(1, 1) + lost(op(api.Put, 1, 2)+op(api.Del, 1))}, []int{0, 1}, nil},
		{"behind an Abort: it reads not", []string{put(1, 1), abort() + get(1)}, []int{0, 1}, nil},
		{"keys far apart in one part", []string{put(3, 1), put(3+parts, 1), put(3-parts, 1), get(3 + 2*parts)}, []int{0, 1, 2, 3}, nil},
		{"the ends of the numbers", []string{put(-1<<63, 1), put(1<<63-1, 1), get(-1 << 63), put(1<<63-1, 2)}, []int{2, 0, 1}, []int{3}},
	} {
		wantEpoch(t, c.what, c.codes, c.decided, c.losers)
	}
}

func TestOrder(t *testing.T) {
	for _, c := range []struct {
		what    string
		codes   []string
		decided []int
	}{
		{"apart: the smaller first", []string{put(1, 1), put(2, 2), get(3), ""}, []int{0, 1, 2, 3}},
		{"all read what the first writes: the greater first", []string{put(1, 1), get(1), get(1), get(1)}, []int{3, 2, 1, 0}},
		{"a line: each reads what the one ahead writes", []string{put(1, 1), get(1) + put(2, 1), get(2) + put(3, 1), get(3)}, []int{3, 2, 1, 0}},
		{"the other way: each writes what the one ahead reads", []string{get(3), get(2) + put(3, 1), get(1) + put(2, 1), put(1, 1)}, []int{0, 1, 2, 3}},
		{"in turn", []string{put(1, 1), get(1), put(2, 1), get(2), get(9), get(1)}, []int{5, 3, 1, 0, 2, 4}},
		{"only a smaller one brings it ahead", []string{get(1), put(1, 1), get(1)}, []int{2, 0, 1}},
	} {
		wantEpoch(t, c.what, c.codes, c.decided, nil)
	}
}

// Each runs alone on what stood at the beginning; the snapshot itself stays.
func TestAllSeeTheSnapshot(t *testing.T) {
	was := machine.Snapshot{1: 10, 2: 20}
	codes := []string{put(1, 11) + del(2) + put(3, 3), get(1) + get(2) + get(3), put(1, 12) + get(1) + abort(), get(1)}
	told := [][]int{nil, {10, 20, 0}, {12}, {10}}
	for workers := 1; workers <= api.MaxWorkers; workers++ {
		snapshot := maps.Clone(was)
		got := Run(workers, codes, snapshot)
		for position, want := range told {
			if !slices.Equal(got.Runs[position].Outcome.Told, want) {
				t.Errorf("%d workers: position %d told %v, want %v", workers, position, got.Runs[position].Outcome.Told, want)
			}
		}
		if !maps.Equal(snapshot, was) {
			t.Errorf("%d workers: the snapshot became %v", workers, snapshot)
		}
	}
}

// plainly says who loses, and the order, by the document's words: each position is held against every smaller one.
func plainly(codes []string, snapshot machine.Snapshot) (decided, losers []int) {
	var runs []machine.Run
	for _, code := range codes {
		run, _ := machine.Execute(code, snapshot)
		runs = append(runs, run)
	}
	var first, then []int
	for position, run := range runs {
		var bothWrite, readsWritten, writesRead bool
		for _, smaller := range runs[:position] {
			for key := range run.Writes {
				_, writes := smaller.Writes[key]
				bothWrite = bothWrite || writes
				writesRead = writesRead || slices.Contains(smaller.Reads, key)
			}
			for _, key := range run.Reads {
				_, writes := smaller.Writes[key]
				readsWritten = readsWritten || writes
			}
		}
		switch {
		case bothWrite, readsWritten && writesRead:
			losers = append(losers, position)
		case readsWritten:
			first = append([]int{position}, first...)
		default:
			then = append(then, position)
		}
	}
	return append(first, then...), losers
}

// anyCode does a few things with some of so many keys.
func anyCode(next func(int) int, keys int) string {
	var code strings.Builder
	for range 1 + next(4) {
		key := next(keys) - keys/2
		code.WriteString([]string{get(key), get(key), has(key), put(key, next(9)), del(key)}[next(5)])
	}
	if next(8) == 0 {
		code.WriteString(abort())
	}
	return code.String()
}

func TestAgainstPlainWords(t *testing.T) {
	next := numbers(3)
	for round := range 600 {
		codes := make([]string, next(api.MaxBatch+1))
		keys := []int{2, 8, 40, 400}[round%4]
		for i := range codes {
			codes[i] = anyCode(next, keys)
		}
		snapshot := machine.Snapshot{0: 1, 1: 2, -1: 3}
		decided, losers := plainly(codes, snapshot)
		for _, workers := range []int{1, 2, 7, api.MaxWorkers} {
			got := Run(workers, codes, snapshot)
			if !slices.Equal(got.Decided, decided) || !slices.Equal(got.Losers, losers) {
				t.Fatalf("round %d, %d workers: decided %v, losers %v, want %v, %v", round, workers, got.Decided, got.Losers, decided, losers)
			}
		}
	}
}

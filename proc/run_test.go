package proc_test

import (
	"slices"
	"strings"
	"sync"
	"testing"

	"heddle/api"
	"heddle/proc"
)

// row is a run, and what the document asks of it.
type row struct {
	what, code string
	in         []api.Pair
	state      int
	told       []int
	out        []api.Pair
}

func wantRun(t *testing.T, c row) {
	t.Helper()
	o, out, e := proc.Run(c.code, c.in)
	if e != api.OK || o.State != c.state || !slices.Equal(o.Told, c.told) || !slices.Equal(out, c.out) {
		t.Errorf("%s: Run(%x, %v) = %+v, %v, %d, want %d, %v, %v", c.what, c.code, c.in, o, out, e, c.state, c.told, c.out)
	}
}

func wantRuns(t *testing.T, rows []row) {
	t.Helper()
	for _, c := range rows {
		if c.state == 0 {
			c.state = api.Committed
		}
		wantRun(t, c)
	}
}

func TestRunConstAndEmit(t *testing.T) {
	wantRuns(t, []row{
		{what: "the empty text"},
		{what: "the document's first example", code: "\x01\x00\x00\x00\x00\x00\x00\x00\x00\x05\x0a\x00", told: []int{5}},
		{what: "registers are 0", code: emit(0, 1, 2, 3, 4, 5, 6, 7), told: make([]int, 8)},
		{what: "the highest first", code: "\x01\x03\x01\x02\x03\x04\x05\x06\x07\x08" + emit(3), told: []int{0x0102030405060708}},
		{what: "the ends of the numbers", code: con(0, least) + con(7, greatest) + con(1, -1) + emit(7, 0, 1), told: []int{greatest, least, -1}},
		{what: "a register is written anew", code: con(2, 4) + emit(2) + con(2, 6) + emit(2, 2), told: []int{4, 6, 6}},
		{what: "256 are told", code: strings.Repeat(emit(5), 256), told: make([]int, 256)},
	})
}

func TestRunReads(t *testing.T) {
	pairs := []api.Pair{{Key: greatest, Value: 3}, {Key: 0, Value: 0}, {Key: -4, Value: -9}, {Key: least, Value: least}}
	sorted := []api.Pair{{Key: least, Value: least}, {Key: -4, Value: -9}, {Key: 0, Value: 0}, {Key: greatest, Value: 3}}
	both := op(api.Get, 2, 1) + op(api.Has, 3, 1) + emit(2, 3)
	wantRuns(t, []row{
		{what: "it stands", code: con(1, -4) + both, in: pairs, told: []int{-9, 1}, out: sorted},
		{what: "it stands with 0", code: both, in: pairs, told: []int{0, 1}, out: sorted},
		{what: "it does not stand", code: con(1, 4) + con(2, 8) + con(3, 8) + both, in: pairs, told: []int{0, 0}, out: sorted},
		{what: "the least key", code: con(1, least) + both, in: pairs, told: []int{least, 1}, out: sorted},
		{what: "the greatest key", code: con(1, greatest) + both, in: pairs, told: []int{3, 1}, out: sorted},
		{what: "Get into the key's register", code: con(1, -4) + op(api.Get, 1, 1) + emit(1), in: pairs, told: []int{-9}, out: sorted},
		{what: "Has into the key's register", code: con(1, -4) + op(api.Has, 1, 1) + emit(1), in: pairs, told: []int{1}, out: sorted},
		{what: "reading lets nothing stand", code: con(1, 4) + both, told: []int{0, 0}},
	})
}

func TestRunWrites(t *testing.T) {
	seven := con(1, 7) + con(2, 5)
	seen := op(api.Get, 3, 1) + op(api.Has, 4, 1) + emit(3, 4)
	wantRuns(t, []row{
		{what: "Put, seen", code: seven + op(api.Put, 1, 2) + seen, told: []int{5, 1}, out: []api.Pair{{Key: 7, Value: 5}}},
		{what: "Put over what stands", code: seven + op(api.Put, 1, 2) + seen, in: []api.Pair{{Key: 7, Value: 1}}, told: []int{5, 1}, out: []api.Pair{{Key: 7, Value: 5}}},
		{what: "Put of 0", code: con(1, 7) + op(api.Put, 1, 0) + seen, told: []int{0, 1}, out: []api.Pair{{Key: 7}}},
		{what: "a key that is its own value", code: con(1, 7) + op(api.Put, 1, 1), out: []api.Pair{{Key: 7, Value: 7}}},
		{what: "Del, seen", code: con(1, 7) + op(api.Del, 1) + seen, in: []api.Pair{{Key: 7, Value: 5}, {Key: 8, Value: 1}}, told: []int{0, 0}, out: []api.Pair{{Key: 8, Value: 1}}},
		{what: "Del of what does not stand", code: con(1, 7) + op(api.Del, 1) + seen, told: []int{0, 0}},
		{what: "Put, then Del", code: seven + op(api.Put, 1, 2) + op(api.Del, 1) + seen, told: []int{0, 0}},
		{what: "Del, then Put", code: seven + op(api.Del, 1) + op(api.Put, 1, 2) + seen, in: []api.Pair{{Key: 7, Value: 1}}, told: []int{5, 1}, out: []api.Pair{{Key: 7, Value: 5}}},
		{what: "Put twice", code: seven + op(api.Put, 1, 1) + op(api.Put, 1, 2) + seen, told: []int{5, 1}, out: []api.Pair{{Key: 7, Value: 5}}},
		{what: "what is put is the value, not the register", code: seven + op(api.Put, 1, 2) + con(2, 6) + seen, told: []int{5, 1}, out: []api.Pair{{Key: 7, Value: 5}}},
		{
			what: "by keys, far apart",
			code: con(1, least) + con(2, greatest) + op(api.Put, 2, 0) + op(api.Put, 1, 0) + op(api.Put, 0, 0),
			in:   []api.Pair{{Key: 1, Value: 1}, {Key: -1, Value: 2}},
			out:  []api.Pair{{Key: least}, {Key: -1, Value: 2}, {Key: 0}, {Key: 1, Value: 1}, {Key: greatest}},
		},
	})
}

func TestRunReckonsAndWrapsRound(t *testing.T) {
	for _, c := range []struct {
		kind       byte
		a, b, want int
	}{
		{api.Add, 2, 3, 5}, {api.Add, greatest, 1, least}, {api.Add, least, -1, greatest}, {api.Add, least, least, 0},
		{api.Sub, 2, 3, -1}, {api.Sub, 3, 2, 1}, {api.Sub, least, 1, greatest}, {api.Sub, 0, least, least}, {api.Sub, greatest, -1, least},
		{api.Mul, 2, -3, -6}, {api.Mul, greatest, 2, -2}, {api.Mul, least, -1, least}, {api.Mul, 1 << 32, 1 << 32, 0}, {api.Mul, greatest, greatest, 1},
	} {
		operands := con(1, c.a) + con(2, c.b)
		wantRuns(t, []row{
			{what: "into a third", code: operands + op(c.kind, 3, 1, 2) + emit(1, 2, 3), told: []int{c.a, c.b, c.want}},
			{what: "into the first", code: operands + op(c.kind, 1, 1, 2) + emit(1, 2), told: []int{c.want, c.b}},
			{what: "into the second", code: operands + op(c.kind, 2, 1, 2) + emit(1, 2), told: []int{c.a, c.want}},
		})
	}
	wantRuns(t, []row{{what: "all one register", code: con(6, 5) + op(api.Add, 6, 6, 6) + emit(6) + op(api.Mul, 6, 6, 6) + emit(6) + op(api.Sub, 6, 6, 6) + emit(6), told: []int{10, 100, 0}}})
}

func TestRunLess(t *testing.T) {
	for _, c := range []struct {
		a, b   int
		passes bool
	}{
		{0, 0, false}, {0, 1, true}, {1, 0, false}, {-1, 0, true}, {0, -1, false}, {least, greatest, true}, {greatest, least, false}, {least, least, false},
	} {
		told := []int{c.a, c.b}
		if c.passes {
			told = told[1:]
		}
		wantRuns(t, []row{{what: "one is passed over, or none", code: con(1, c.a) + con(2, c.b) + op(api.Less, 1, 2, 1) + emit(1) + emit(2), told: told}})
	}
	yes := con(1, 1)
	wantRuns(t, []row{
		{what: "none is passed over", code: yes + op(api.Less, 0, 1, 0) + emit(1), told: []int{1}},
		{what: "none, at the end", code: yes + op(api.Less, 0, 1, 0)},
		{what: "just to the end", code: yes + op(api.Less, 0, 1, 2) + emit(1, 1)},
		{what: "254, just to the end of 256", code: yes + op(api.Less, 0, 1, 254) + strings.Repeat(op(api.Abort), 254)},
		{what: "255 that are not passed over", code: op(api.Less, 0, 1, 255) + strings.Repeat(emit(0), 255), told: make([]int, 255)},
		{what: "instructions, not bytes", code: yes + op(api.Less, 0, 1, 2) + con(2, 9) + op(api.Abort) + emit(2), told: []int{0}},
		{what: "onto a Less", code: yes + op(api.Less, 0, 1, 1) + op(api.Abort) + op(api.Less, 0, 1, 1) + op(api.Abort) + emit(1), told: []int{1}},
		{what: "over a Less", code: yes + op(api.Less, 0, 1, 1) + op(api.Less, 0, 1, 1) + emit(1), told: []int{1}},
	})
}

func TestRunAbort(t *testing.T) {
	in := []api.Pair{{Key: 5, Value: 1}, {Key: 0, Value: 8}}
	out := []api.Pair{{Key: 0, Value: 8}, {Key: 5, Value: 1}}
	wantRuns(t, []row{
		{what: "alone", code: op(api.Abort), in: in, state: api.RolledBack, out: out},
		{what: "it has written", code: con(1, 3) + op(api.Put, 1, 1) + op(api.Put, 0, 1) + con(1, 5) + op(api.Del, 1) + op(api.Abort), in: in, state: api.RolledBack, out: out},
		{what: "it has told, and tells no more", code: con(1, 3) + emit(1, 0) + op(api.Abort) + emit(1), in: in, state: api.RolledBack, told: []int{3, 0}, out: out},
		{what: "it saw what it wrote", code: con(1, 3) + op(api.Put, 0, 1) + op(api.Get, 2, 0) + emit(2) + op(api.Abort), in: in, state: api.RolledBack, told: []int{3}, out: out},
		{what: "passed over", code: con(1, 3) + op(api.Less, 0, 1, 1) + op(api.Abort) + op(api.Put, 0, 1), in: in, out: []api.Pair{{Key: 0, Value: 3}, {Key: 5, Value: 1}}},
	})
}

func TestRunRefuses(t *testing.T) {
	twice := []api.Pair{{Key: 1, Value: 4}, {Key: 2}, {Key: 1, Value: 5}}
	for _, c := range []struct {
		what, code string
		in         []api.Pair
		want       api.Errno
	}{
		{"a key twice", emit(0), twice, api.ErrArg},
		{"a key twice, next to itself", emit(0), []api.Pair{{Key: 3}, {Key: 3}}, api.ErrArg},
		{"a key twice, with the same", "", []api.Pair{{Key: 1, Value: 4}, {Key: 1, Value: 4}}, api.ErrArg},
		{"the key 0 twice, with 0", "", []api.Pair{{}, {}}, api.ErrArg},
		{"no procedure", emit(0) + "\x00", []api.Pair{{Key: 1}}, api.ErrCode},
		{"told ahead of what is wrong", emit(0, 0) + op(api.Put, 0), nil, api.ErrCode},
		{"both: no instruction", "\x00", twice, api.ErrArg},
		{"both: too many", strings.Repeat(emit(0), 257), twice, api.ErrArg},
		{"both: Less too far", op(api.Less, 0, 0, 1), twice, api.ErrArg},
	} {
		o, out, e := proc.Run(c.code, c.in)
		if e != c.want || o.State != 0 || len(o.Told) != 0 || len(out) != 0 {
			t.Errorf("%s: Run(%x, %v) = %+v, %v, %d, want %d", c.what, c.code, c.in, o, out, e, c.want)
		}
	}
}

func TestRunOnManyPairs(t *testing.T) {
	const many = 20000
	in, out := make([]api.Pair, many), make([]api.Pair, many)
	for i := range many {
		in[many-1-i] = api.Pair{Key: i - many/2, Value: i}
		out[i] = api.Pair{Key: i - many/2, Value: i}
	}
	wantRuns(t, []row{{what: "many", in: in, out: out}})
	if _, _, e := proc.Run("", append(in, in[0])); e != api.ErrArg {
		t.Errorf("the first of many told again: %d, want ErrArg", e)
	}
}

// busy writes over what stands, lets it go, and tells.
func busy() (string, []api.Pair) {
	code := con(1, 7) + con(2, 5) + op(api.Put, 1, 2) + op(api.Del, 0) + op(api.Get, 3, 1) + emit(3, 1, 2)
	return code, []api.Pair{{Key: 9, Value: 2}, {Key: 7, Value: 1}, {Key: 0, Value: 4}}
}

func TestRunWritesIntoNothingHandedIn(t *testing.T) {
	code, pairs := busy()
	for _, code := range []string{code, code + op(api.Abort), "\x00"} {
		room := append(slices.Clone(pairs), api.Pair{Key: 77, Value: 78}, api.Pair{Key: 79, Value: 80})
		was := slices.Clone(room)
		proc.Run(code, room[:len(pairs)])
		if !slices.Equal(room, was) {
			t.Errorf("Run(%x) made %v of %v", code, room, was)
		}
	}
}

func TestRunKeepsNothing(t *testing.T) {
	code, pairs := busy()
	o, out, _ := proc.Run(code, pairs)
	told, stood := slices.Clone(o.Told), slices.Clone(out)
	clear(pairs)
	if !slices.Equal(o.Told, told) || !slices.Equal(out, stood) {
		t.Errorf("what came out changed with what was handed in: %v, %v", o.Told, out)
	}
	if _, out, e := proc.Run("", nil); e != api.OK || len(out) != 0 {
		t.Errorf("on nothing, behind another run: %v, %d", out, e)
	}
}

func TestRunGivesNewMemory(t *testing.T) {
	code, pairs := busy()
	for _, code := range []string{code, "", emit(0), op(api.Abort)} {
		one, oneOut, _ := proc.Run(code, pairs)
		two, twoOut, _ := proc.Run(code, pairs)
		told, stood, handed := slices.Clone(two.Told), slices.Clone(twoOut), slices.Clone(pairs)
		for i := range one.Told[:cap(one.Told)] {
			one.Told[:cap(one.Told)][i] = -77
		}
		for i := range oneOut[:cap(oneOut)] {
			oneOut[:cap(oneOut)][i] = api.Pair{Key: -77, Value: -77}
		}
		if !slices.Equal(two.Told, told) || !slices.Equal(twoOut, stood) || !slices.Equal(pairs, handed) {
			t.Errorf("Run(%x): lists that came out share memory: %v, %v, %v", code, two.Told, twoOut, pairs)
		}
		// Only now: run any sooner, it would put right what the first one's memory spoilt.
		again, againOut, _ := proc.Run(code, pairs)
		if !slices.Equal(again.Told, told) || !slices.Equal(againOut, stood) {
			t.Errorf("Run(%x) another time: %v, %v, want %v, %v", code, again.Told, againOut, told, stood)
		}
	}
}

func TestRunManyAtOnce(t *testing.T) {
	code, pairs := busy()
	var group sync.WaitGroup
	for range 16 {
		group.Go(func() {
			for range 100 {
				o, out, e := proc.Run(code, pairs)
				if e != api.OK || !slices.Equal(o.Told, []int{5, 7, 5}) || !slices.Equal(out, []api.Pair{{Key: 7, Value: 5}, {Key: 9, Value: 2}}) {
					t.Errorf("Run = %v, %v, %d", o, out, e)
					return
				}
			}
		})
	}
	group.Wait()
}

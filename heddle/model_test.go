package heddle_test

import (
	"encoding/binary"
	"maps"
	"slices"
	"strings"
	"testing"

	"heddle/api"
	"heddle/heddle"
	"heddle/proc"
)

// tried is a run of the model: what it told, and which keys it read and wrote.
type tried struct {
	outcome       api.Outcome
	reads, writes map[int]bool
	after         map[int]int
}

// try runs a procedure by the document's words, on a copy of all that stands.
func try(code string, stands map[int]int) tried {
	run := tried{api.Outcome{State: api.Committed}, map[int]bool{}, map[int]bool{}, maps.Clone(stands)}
	sizes := []int{api.Const: 10, api.Get: 3, api.Has: 3, api.Put: 3, api.Del: 2, api.Add: 4, api.Emit: 2, api.Abort: 1}
	var r [api.Registers]int
	for code != "" {
		in := code + "\x00\x00\x00"
		x, y, z := in[1]&7, in[2]&7, in[3]&7
		switch in[0] {
		case api.Const:
			r[x] = int(binary.BigEndian.Uint64([]byte(in[2:])))
		case api.Get:
			run.reads[r[y]] = true
			r[x] = run.after[r[y]]
		case api.Has:
			run.reads[r[y]] = true
			_, stands := run.after[r[y]]
			r[x] = map[bool]int{true: 1}[stands]
		case api.Put:
			run.writes[r[x]] = true
			run.after[r[x]] = r[y]
		case api.Del:
			run.writes[r[x]] = true
			delete(run.after, r[x])
		case api.Add:
			r[x] = r[y] + r[z]
		case api.Emit:
			run.outcome.Told = append(run.outcome.Told, r[x])
		case api.Abort:
			run.outcome.State, run.writes, run.after = api.RolledBack, nil, stands
			return run
		}
		code = code[sizes[in[0]]:]
	}
	return run
}

func meet(a, b map[int]bool) bool {
	for key := range a {
		if b[key] {
			return true
		}
	}
	return false
}

// state is all of a model that a Restart may bring back.
type state struct {
	taken   map[int]bool
	waiting []int
	stands  map[int]int
	results map[int]api.Outcome
	decided []int // in the order in which they count
	log     string
}

func (s state) clone() state {
	return state{maps.Clone(s.taken), slices.Clone(s.waiting), maps.Clone(s.stands), maps.Clone(s.results), slices.Clone(s.decided), s.log}
}

// model is an engine in the plainest way, with neither workers nor a table. It reads no log: beside how it stands it keeps how it would stand behind a Restart.
type model struct {
	state
	config      api.Config
	codes       []string // the number of each is its place, from 1 on
	kept        state
	down, armed bool
	room        int
}

func newModel(c api.Config) *model {
	empty := state{taken: map[int]bool{}, stands: map[int]int{}, results: map[int]api.Outcome{}}
	return &model{state: empty.clone(), kept: empty, config: c}
}

func (m *model) submit(code string) (int, api.Errno) {
	if m.down {
		return 0, api.ErrDown
	}
	if len(m.waiting) == m.config.Queue {
		return 0, api.ErrFull
	}
	m.codes = append(m.codes, code)
	m.waiting = append(m.waiting, len(m.codes))
	return len(m.codes), api.OK
}

func (m *model) arm(bytes int) api.Errno {
	switch {
	case bytes < 0:
		return api.ErrArg
	case m.down:
		return api.ErrDown
	}
	m.armed, m.room = true, bytes
	return api.OK
}

func (m *model) crash() api.Errno {
	if m.down {
		return api.ErrDown
	}
	m.down, m.armed = true, false
	return api.OK
}

func (m *model) restart() api.Errno {
	if !m.down {
		return api.ErrDown
	}
	m.down, m.state = false, m.kept.clone()
	return api.OK
}

func (m *model) epoch() ([]int, api.Errno) {
	if m.down {
		return nil, api.ErrDown
	}
	front := slices.Clone(m.waiting[:min(len(m.waiting), m.config.Batch)])
	var fresh []string
	for _, id := range front {
		if !m.taken[id] {
			fresh = append(fresh, newcomer(id, m.codes[id-1]))
		}
	}
	written := record(fresh...)
	if len(m.log+written) > m.config.Log {
		return nil, api.ErrFull
	}
	was := m.state.clone()
	was.log += written[:min(m.room, len(written))]
	m.log += written
	list, losers := m.decide(front)
	others := m.waiting[len(front):]
	m.waiting = losers
	if !m.armed || m.room >= len(written) {
		m.kept = m.state.clone()
	}
	if m.armed {
		m.state = was
		m.crash()
		return nil, api.ErrDown
	}
	m.waiting = append(losers, others...)
	return list, api.OK
}

// decide tells who is decided, in the epoch's order, and who loses.
func (m *model) decide(front []int) (decided, losers []int) {
	var runs []tried
	for _, id := range front {
		m.taken[id] = true
		runs = append(runs, try(m.codes[id-1], m.stands))
	}
	var first, then []int
	for position, id := range front {
		run := runs[position]
		var bothWrite, readsWritten, writesRead bool
		for _, smaller := range runs[:position] {
			bothWrite = bothWrite || meet(smaller.writes, run.writes)
			readsWritten = readsWritten || meet(smaller.writes, run.reads)
			writesRead = writesRead || meet(smaller.reads, run.writes)
		}
		switch {
		case bothWrite || readsWritten && writesRead:
			losers = append(losers, id)
			continue
		case readsWritten:
			first = append([]int{id}, first...)
		default:
			then = append(then, id)
		}
		m.results[id] = run.outcome
		m.settle(run) // All have run already, on what stood.
	}
	list := append(first, then...)
	m.decided = append(m.decided, list...)
	return list, losers
}

func (m *model) settle(run tried) {
	for key := range run.writes {
		delete(m.stands, key)
		if value, stands := run.after[key]; stands {
			m.stands[key] = value
		}
	}
}

func (m *model) result(id int) api.Outcome {
	if slices.Contains(m.waiting, id) {
		return api.Outcome{State: api.Pending}
	}
	return m.results[id]
}

func inOrder(stands map[int]int) []api.Pair {
	var pairs []api.Pair
	for _, key := range slices.Sorted(maps.Keys(stands)) {
		pairs = append(pairs, api.Pair{Key: key, Value: stands[key]})
	}
	return pairs
}

// anyCode does a few things with some of so many keys.
func anyCode(next func(int) int, keys int) string {
	var code strings.Builder
	for range next(5) {
		key := next(keys) - keys/2
		code.WriteString([]string{get(key), get(key), has(key), put(key, next(9)), del(key), more(key, 1), get(key) + put(next(keys), 3)}[next(7)])
	}
	if next(8) == 0 {
		code.WriteString(abort() + put(1, 1))
	}
	return code.String()
}

// wantLike holds all that can be asked of an engine against the model.
func wantLike(t *testing.T, e *heddle.Engine, m *model) {
	t.Helper()
	wantWaiting(t, "against the model", e, m.waiting...)
	wantPairs(t, "against the model", e, inOrder(m.stands)...)
	wantLog(t, "against the model", e, m.log)
	for id := -1; id <= len(m.codes)+1; id++ {
		want := m.result(id)
		wantResult(t, "against the model", e, id, want.State, want.Told...)
	}
}

// wantSerial lets all that were decided run alone, one behind the other, from nothing: P8.
func wantSerial(t *testing.T, e *heddle.Engine, codes []string, decided []int) {
	t.Helper()
	var stands []api.Pair
	for _, id := range decided {
		var outcome api.Outcome
		outcome, stands, _ = proc.Run(codes[id-1], stands)
		wantResult(t, "one behind the other", e, id, outcome.State, outcome.Told...)
	}
	wantPairs(t, "one behind the other", e, stands...)
}

// pair is the model and the engines of which the same is asked; the engines differ in their workers alone.
type pair struct {
	model   *model
	engines []*heddle.Engine
}

func newPair(t *testing.T, c api.Config) pair {
	p := pair{model: newModel(c)}
	for _, c.Workers = range []int{1, 3, 16} {
		p.engines = append(p.engines, made(t, c))
	}
	return p
}

func (p pair) submit(t *testing.T, code string) {
	t.Helper()
	number, err := p.model.submit(code)
	for _, e := range p.engines {
		if n, x := e.Submit(code); n != number || x != err {
			t.Fatalf("Submit = %d, %d, want %d, %d", n, x, number, err)
		}
	}
}

func (p pair) epoch(t *testing.T) []int {
	t.Helper()
	list, err := p.model.epoch()
	for _, e := range p.engines {
		if l, x := e.Epoch(); !slices.Equal(l, list) || x != err {
			t.Fatalf("Epoch = %v, %d, want %v, %d", l, x, list, err)
		}
		wantLike(t, e, p.model)
	}
	return list
}

// ask is for the calls that answer nothing but how they went.
func (p pair) ask(t *testing.T, what string, want api.Errno, call func(*heddle.Engine) api.Errno) {
	t.Helper()
	for _, e := range p.engines {
		if got := call(e); got != want {
			t.Fatalf("%s = %d, want %d", what, got, want)
		}
		wantLike(t, e, p.model)
	}
}

func TestAgainstModel(t *testing.T) {
	next := numbers(4)
	for round := range 60 {
		p := newPair(t, api.Config{Batch: 1 + next(20), Queue: 1 + next(40), Log: 64 + next(6000)})
		for range 80 {
			if next(4) > 0 {
				p.submit(t, anyCode(next, []int{2, 6, 30}[round%3]))
			} else {
				p.epoch(t)
			}
		}
		for _, e := range p.engines {
			wantLike(t, e, p.model)
			wantSerial(t, e, p.model.codes, p.model.decided)
		}
	}
}

// The same with engines that go down in all ways and come up again: P10, P11.
func TestGoingDownAgainstModel(t *testing.T) {
	next := numbers(6)
	for round := range 60 {
		p := newPair(t, api.Config{Batch: 1 + next(10), Queue: 1 + next(20), Log: 64 + next(8000)})
		outcomes := map[int]api.Outcome{} // of all that an Epoch ever told
		for range 150 {
			switch kind := next(20); {
			case kind < 9:
				p.submit(t, anyCode(next, []int{2, 6, 30}[round%3]))
			case kind < 14:
				for _, id := range p.epoch(t) {
					outcomes[id] = p.engines[0].Result(id)
				}
			case kind < 16:
				bytes := next(400) - 20
				p.ask(t, "Arm", p.model.arm(bytes), func(e *heddle.Engine) api.Errno { return e.Arm(bytes) })
			case kind < 17:
				p.ask(t, "Crash", p.model.crash(), (*heddle.Engine).Crash)
			default:
				p.ask(t, "Restart", p.model.restart(), (*heddle.Engine).Restart)
			}
		}
		for _, e := range p.engines {
			wantSerial(t, e, p.model.codes, p.model.decided)
			for id, was := range outcomes {
				wantResult(t, "what was decided stays decided", e, id, was.State, was.Told...)
			}
		}
	}
}

// As many as an epoch may take, on few keys, by as many workers as may be, epoch behind epoch until none waits.
func TestGreatEpochsAreSerial(t *testing.T) {
	next := numbers(5)
	for _, keys := range []int{3, 20, 100} {
		for _, workers := range []int{1, 2, 16} {
			e := made(t, api.Config{Workers: workers, Batch: 64, Queue: 200, Log: 100000})
			var codes []string
			var decided []int
			for i := range 200 {
				codes = append(codes, anyCode(next, keys))
				submit(t, e, i+1, codes[i])
			}
			for len(e.Waiting()) > 0 {
				list, err := e.Epoch()
				if err != api.OK || len(list) == 0 {
					t.Fatalf("Epoch = %v, %d", list, err)
				}
				decided = append(decided, list...)
			}
			if all := slices.Sorted(slices.Values(decided)); len(all) != 200 || len(slices.Compact(all)) != 200 {
				t.Errorf("%d were decided, want each of 200 once", len(all))
			}
			wantSerial(t, e, codes, decided)
		}
	}
}

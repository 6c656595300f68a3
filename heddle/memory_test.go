package heddle_test

import (
	"runtime"
	"slices"
	"sync"
	"testing"
	"time"
	"unsafe"

	"heddle/api"
	"heddle/heddle"
)

// busy is an engine in which some are decided, have told something, and some wait.
func busy(t *testing.T) *heddle.Engine {
	e := made(t, roomy())
	submit(t, e, 1, more(1, 5), get(1)+get(2)+put(3, 4), more(1, 1), put(2, 9))
	wantEpoch(t, "busy", e, 2, 1, 4)
	submit(t, e, 5, get(8))
	return e
}

func wantBusy(t *testing.T, e *heddle.Engine) {
	t.Helper()
	wantWaiting(t, "busy", e, 3, 5)
	wantPairs(t, "busy", e, api.Pair{Key: 1, Value: 5}, api.Pair{Key: 2, Value: 9}, api.Pair{Key: 3, Value: 4})
	wantResult(t, "busy", e, 1, api.Committed, 0)
	wantResult(t, "busy", e, 2, api.Committed, 0, 0)
	wantResult(t, "busy", e, 3, api.Pending)
	wantLog(t, "busy", e, record(newcomer(1, more(1, 5)), newcomer(2, get(1)+get(2)+put(3, 4)), newcomer(3, more(1, 1)), newcomer(4, put(2, 9))))
}

// spoil writes over a list and its spare room.
func spoil[T any](list []T, with T) {
	for i := range list[:cap(list)] {
		list[:cap(list)][i] = with
	}
}

func spoilAll(e *heddle.Engine) {
	spoil(e.Waiting(), -77)
	spoil(e.Pairs(), api.Pair{Key: -77, Value: -77})
	for id := range 7 {
		spoil(e.Result(id).Told, -77)
	}
}

// What comes out is the caller's, its spare room too.
func TestListsAreTheCallers(t *testing.T) {
	e := busy(t)
	spoilAll(e)
	wantBusy(t, e)
	list, _ := e.Epoch()
	was := slices.Clone(list)
	one, two, told := e.Waiting(), e.Pairs(), e.Result(3).Told
	spoil(list, -77)
	wantResult(t, "behind its epoch", e, was[0], api.Committed, 5)
	wantWaiting(t, "behind its epoch", e)
	if submit(t, e, 6, put(1, 1), put(4, 4)); len(one) != 0 || len(two) != 3 || !slices.Equal(told, []int{5}) {
		t.Errorf("what came out changed: %v, %v, %v", one, two, told)
	}
	wantEpoch(t, "the next", e, 6, 7)
	if !slices.Equal(two, []api.Pair{{Key: 1, Value: 6}, {Key: 2, Value: 9}, {Key: 3, Value: 4}}) || !slices.Equal(told, []int{5}) {
		t.Errorf("what came out changed with the engine: %v, %v", two, told)
	}
}

// The text that is handed in is not kept: a later change of its memory is not seen.
func TestCodeIsNotKept(t *testing.T) {
	memory := []byte(more(1, 5))
	e := made(t, roomy())
	submit(t, e, 1, unsafe.String(&memory[0], len(memory)))
	clear(memory)
	wantEpoch(t, "as it was", e, 1)
	wantPairs(t, "as it was", e, api.Pair{Key: 1, Value: 5})
	wantLog(t, "as it was", e, record(newcomer(1, more(1, 5))))
}

func TestLogThatCameOutStays(t *testing.T) {
	e := made(t, roomy())
	want := ""
	var logs []string
	for i := range 20 {
		submit(t, e, i+1, put(i, i))
		wantEpoch(t, "one", e, i+1)
		want += record(newcomer(i+1, put(i, i)))
		logs = append(logs, e.Log())
	}
	for i, log := range logs {
		if log != want[:len(want)/20*(i+1)] {
			t.Errorf("the log that came out behind epoch %d became %x", i+1, log)
		}
	}
}

// Also if the log was cut since, and written over what was cut off.
func TestTornLogThatCameOutStays(t *testing.T) {
	e := made(t, roomy())
	submit(t, e, 1, put(1, 1))
	torn(t, e, 20)
	log := e.Log()
	want(t, "Restart", e.Restart(), api.OK)
	submit(t, e, 2, put(2, 2))
	wantEpoch(t, "over it", e, 2)
	if log != record(newcomer(1, put(1, 1)))[:20] {
		t.Errorf("the log that came out became %x", log)
	}
	wantLog(t, "over it", e, record(newcomer(2, put(2, 2))))
}

// What one engine does touches no other: neither one behind the other nor at once.
func TestEnginesAreApart(t *testing.T) {
	one, other := busy(t), made(t, roomy())
	submit(t, other, 1, del(1)+get(1)+put(7, 7), put(8, 8))
	wantEpoch(t, "the other one", other, 1, 2)
	wantPairs(t, "the other one", other, api.Pair{Key: 7, Value: 7}, api.Pair{Key: 8, Value: 8})
	wantBusy(t, one)

	var group sync.WaitGroup
	for range 8 {
		group.Go(func() {
			e, _ := heddle.New(api.Config{Workers: 8, Batch: 8, Queue: 8, Log: 100000})
			for range 100 {
				e.Submit(more(1, 1))
				e.Epoch()
			}
			if got := e.Pairs(); !slices.Equal(got, []api.Pair{{Key: 1, Value: 100}}) {
				t.Errorf("%v", got)
			}
		})
	}
	group.Wait()
}

// No goroutine is left when a call answers.
func TestNoGoroutineIsLeft(t *testing.T) {
	before := runtime.NumGoroutine()
	e := made(t, api.Config{Workers: 16, Batch: 64, Queue: 200, Log: 100000})
	for i := range 300 {
		submit(t, e, i+1, more(i%7, 1))
		if i%3 == 0 {
			e.Epoch()
		}
	}
	e.Waiting()
	e.Pairs()
	e.Result(1)
	e.Log()
	torn(t, e, 5)
	want(t, "Restart", e.Restart(), api.OK)
	again(t, e)
	// One that has said it is done may take a moment to be gone.
	for range 1000 {
		if runtime.NumGoroutine() <= before {
			return
		}
		time.Sleep(time.Millisecond)
	}
	t.Errorf("%d goroutines, before it were %d", runtime.NumGoroutine(), before)
}

package heddle

import (
	"slices"
	"testing"

	"heddle/api"
)

// An engine that is down takes nothing and runs nothing, whatever else is wrong; what it is asked it answers as it stood.
func TestDown(t *testing.T) {
	e, _ := New(api.Config{Workers: 2, Batch: 2, Queue: 2, Log: 64})
	put := string([]byte{api.Put, 0, 0})
	tells := put + string([]byte{api.Emit, 0})
	e.Submit(tells)
	e.Submit(tells)
	e.Epoch()
	e.Submit(put)
	log := e.Log()
	e.down = true
	for _, code := range []string{"", put, "\x00"} {
		if number, err := e.Submit(code); number != 0 || err != api.ErrDown {
			t.Errorf("Submit(%x) = %d, %d", code, number, err)
		}
	}
	if list, err := e.Epoch(); len(list) != 0 || err != api.ErrDown {
		t.Errorf("Epoch = %v, %d", list, err)
	}
	if got := e.Waiting(); !slices.Equal(got, []int{2, 3}) {
		t.Errorf("Waiting = %v", got)
	}
	if got := e.Pairs(); !slices.Equal(got, []api.Pair{{}}) {
		t.Errorf("Pairs = %v", got)
	}
	for id, state := range []int{api.Unknown, api.Committed, api.Pending, api.Pending, api.Unknown} {
		if got := e.Result(id); got.State != state || len(got.Told) != map[int]int{1: 1}[id] {
			t.Errorf("Result(%d) = %+v", id, got)
		}
	}
	if e.Log() != log || log == "" {
		t.Errorf("Log = %x, want %x", e.Log(), log)
	}
}

package heddle_test

import (
	"slices"
	"strings"
	"testing"

	"heddle/api"
	"heddle/heddle"
)

// P5

func TestNewTakesBounds(t *testing.T) {
	for _, c := range []api.Config{
		{Workers: 1, Batch: 1, Queue: 1, Log: 64},
		{Workers: 16, Batch: 64, Queue: 200, Log: 100000},
		{Workers: 16, Batch: 1, Queue: 200, Log: 64},
		{Workers: 1, Batch: 64, Queue: 1, Log: 100000},
	} {
		e := made(t, c)
		wantPairs(t, "new", e)
		wantWaiting(t, "new", e)
		wantLog(t, "new", e)
		wantResult(t, "new", e, 0, api.Unknown)
		wantResult(t, "new", e, 1, api.Unknown)
		submit(t, e, 1, put(1, 2))
		wantEpoch(t, "it is up", e, 1)
	}
}

func TestNewRefusesBeyondBounds(t *testing.T) {
	good := roomy()
	for _, c := range []struct {
		what   string
		number *int
		bad    []int
	}{
		{"Workers", &good.Workers, []int{0, 17, -1, least, greatest}},
		{"Batch", &good.Batch, []int{0, 65, -1, least, greatest}},
		{"Queue", &good.Queue, []int{0, 201, -1, least, greatest}},
		{"Log", &good.Log, []int{63, 100001, 0, -1, least, greatest}},
	} {
		was := *c.number
		for _, n := range c.bad {
			*c.number = n
			if e, err := heddle.New(good); e != nil || err != api.ErrArg {
				t.Errorf("%s %d: New = %v, %d, want nil, ErrArg", c.what, n, e, err)
			}
		}
		*c.number = was
		made(t, good)
	}
	if e, err := heddle.New(api.Config{}); e != nil || err != api.ErrArg {
		t.Errorf("all 0: New = %v, %d", e, err)
	}
}

// P6

func TestSubmitCountsOn(t *testing.T) {
	e := made(t, roomy())
	submit(t, e, 1, "", put(1, 1), abort())
	wantWaiting(t, "in order", e, 1, 2, 3)
	wantEpoch(t, "all", e, 1, 2, 3)
	submit(t, e, 4, put(1, 1), "")
	wantWaiting(t, "the numbers go on", e, 4, 5)
}

func TestSubmitRefusesWhatIsNoProcedure(t *testing.T) {
	e := made(t, roomy())
	for _, code := range []string{"\x00", "\x0c", "\xff", op(api.Put, 0), op(api.Get, 8, 0), op(api.Less, 0, 0, 1), strings.Repeat(abort(), 257), put(1, 1) + "\x00"} {
		refused(t, "no procedure", e, code, api.ErrCode)
	}
	wantWaiting(t, "nothing has changed", e)
	submit(t, e, 1, strings.Repeat(abort(), 256))
}

func TestSubmitRefusesWhenFull(t *testing.T) {
	for _, queue := range []int{1, 2, 200} {
		c := roomy()
		c.Queue, c.Batch = queue, 1
		e := made(t, c)
		for i := range queue {
			submit(t, e, i+1, more(1, 1))
		}
		refused(t, "full", e, "", api.ErrFull)
		refused(t, "full, and no procedure: the first of both", e, "\x00", api.ErrCode)
		if got := e.Waiting(); len(got) != queue {
			t.Errorf("%d wait, want %d", len(got), queue)
		}
		wantEpoch(t, "one is taken", e, 1)
		submit(t, e, queue+1, "") // No number was lost by what was refused.
		refused(t, "full again", e, "", api.ErrFull)
	}
}

// Losers wait too: they fill the queue like all others.
func TestLosersFillTheQueue(t *testing.T) {
	c := roomy()
	c.Queue, c.Batch = 3, 3
	e := made(t, c)
	submit(t, e, 1, put(1, 1), put(1, 2), put(1, 3))
	wantEpoch(t, "two lose", e, 1)
	submit(t, e, 4, put(1, 4))
	refused(t, "two losers and one wait", e, "", api.ErrFull)
	wantWaiting(t, "full", e, 2, 3, 4)
}

// P7

func TestExamples(t *testing.T) {
	e := made(t, roomy())
	one := op(api.Get, 1, 0) + con(2, 1) + op(api.Add, 1, 1, 2) + op(api.Put, 0, 1)
	submit(t, e, 1, one, one)
	wantEpoch(t, "both write the key 0", e, 1)
	wantEpoch(t, "the loser again", e, 2)
	wantPairs(t, "two", e, api.Pair{Key: 0, Value: 2})

	e = made(t, roomy())
	submit(t, e, 1, get(1)+put(2, 7), get(2)+put(3, 8))
	wantEpoch(t, "the greater one first", e, 2, 1)
	wantResult(t, "as it was", e, 2, api.Committed, 0)
	wantPairs(t, "both", e, api.Pair{Key: 2, Value: 7}, api.Pair{Key: 3, Value: 8})
}

func TestEpochTakesABatchFromTheFront(t *testing.T) {
	for _, batch := range []int{1, 2, 3, 64} {
		c := roomy()
		c.Batch, c.Queue = batch, 200
		e := made(t, c)
		var all []int
		for i := range 150 {
			submit(t, e, i+1, put(i, i))
			all = append(all, i+1)
		}
		for len(all) > 0 {
			now := all[:min(batch, len(all))]
			all = all[len(now):]
			wantEpoch(t, "the front", e, now...)
			wantWaiting(t, "the others", e, all...)
		}
		wantEpoch(t, "nobody is left", e)
	}
}

func TestLosersWaitAheadOfAllOthers(t *testing.T) {
	c := roomy()
	c.Batch = 4
	e := made(t, c)
	submit(t, e, 1, more(1, 1), more(1, 10), more(2, 1), more(1, 100), more(3, 1), more(1, 1000))
	wantEpoch(t, "two of four lose", e, 1, 3)
	wantWaiting(t, "the losers in their order", e, 2, 4, 5, 6)
	submit(t, e, 7, more(2, 1))
	wantEpoch(t, "losers and newcomers", e, 2, 5)
	wantWaiting(t, "one loses a second time", e, 4, 6, 7)
	wantEpoch(t, "the same again", e, 4, 7)
	wantEpoch(t, "the last", e, 6)
	wantPairs(t, "all", e, api.Pair{Key: 1, Value: 1111}, api.Pair{Key: 2, Value: 2}, api.Pair{Key: 3, Value: 1})
	wantResult(t, "what it saw at last", e, 6, api.Committed, 111)
	one := func(number, key, n int) string { return newcomer(number, more(key, n)) }
	wantLog(t, "each stands in it once", e,
		record(one(1, 1, 1), one(2, 1, 10), one(3, 2, 1), one(4, 1, 100)),
		record(one(5, 3, 1), one(6, 1, 1000)),
		record(one(7, 2, 1)),
		record())
}

// None sees what another one of its epoch writes; the next epoch's do.
func TestEpochsSeeWhatStoodAtTheirBeginning(t *testing.T) {
	e := made(t, roomy())
	submit(t, e, 1, put(1, 5)+put(2, 6), get(1)+has(1))
	wantEpoch(t, "the first", e, 2, 1)
	wantResult(t, "nothing stood", e, 2, api.Committed, 0, 0)
	submit(t, e, 3, get(1)+has(1), del(1)+put(2, 7), get(1)+get(2))
	wantEpoch(t, "the second", e, 5, 3, 4)
	wantResult(t, "it stood", e, 3, api.Committed, 5, 1)
	wantResult(t, "it stood still", e, 5, api.Committed, 5, 6)
	wantPairs(t, "the second", e, api.Pair{Key: 2, Value: 7})
}

func TestRolledBackIsDecided(t *testing.T) {
	e := made(t, roomy())
	submit(t, e, 1, put(1, 5)+get(1)+abort(), put(1, 6), get(1)+put(1, 7)+abort())
	wantEpoch(t, "it writes nothing", e, 3, 1, 2)
	wantResult(t, "it told", e, 1, api.RolledBack, 5)
	wantResult(t, "it told", e, 3, api.RolledBack, 0)
	wantPairs(t, "the other one's", e, api.Pair{Key: 1, Value: 6})
}

func TestEpochOfNobody(t *testing.T) {
	c := roomy()
	c.Log = 64
	e := made(t, c)
	for i := range 8 {
		wantEpoch(t, "nobody", e)
		wantLog(t, "a record of 8 bytes each", e, strings.Repeat(record(), i+1))
	}
	wantFull(t, "a log of 64 bytes", e)
	wantLog(t, "full", e, strings.Repeat(record(), 8))
}

// A record that just fits, and one byte too many.
func TestEpochThatJustFits(t *testing.T) {
	for _, room := range []int{64, 65, 1000} {
		for _, ahead := range []int{0, 1, 2} {
			c := roomy()
			c.Log = room
			e := made(t, c)
			for range ahead {
				wantEpoch(t, "nobody", e)
			}
			size := room - 8*ahead - 8 - 6
			submit(t, e, 1, filled(size))
			wantEpoch(t, "just", e, 1)
			if got := len(e.Log()); got != room {
				t.Errorf("%d bytes, want %d", got, room)
			}

			e = made(t, c)
			for range ahead {
				wantEpoch(t, "nobody", e)
			}
			submit(t, e, 1, put(1, 1)+filled(size+1-len(put(1, 1))))
			for range 2 {
				wantFull(t, "one byte too many", e)
				wantWaiting(t, "nothing is done", e, 1)
				wantPairs(t, "nothing is done", e)
				wantResult(t, "nothing is done", e, 1, api.Pending)
				wantLog(t, "nothing is done", e, strings.Repeat(record(), ahead))
			}
			submit(t, e, 2, "")
		}
	}
}

// What did not fit is a newcomer still; what fits goes on behind it.
func TestLosersFitWhereNewcomersDoNot(t *testing.T) {
	c := roomy()
	c.Batch = 2
	first := record(newcomer(1, put(1, 1)), newcomer(2, put(1, 2)))
	c.Log = len(first) + 16
	e := made(t, c)
	submit(t, e, 1, put(1, 1), put(1, 2))
	wantEpoch(t, "one loses", e, 1)
	submit(t, e, 3, put(2, 2))
	wantFull(t, "the newcomer does not fit", e)
	wantWaiting(t, "both wait", e, 2, 3)

	e = made(t, c)
	submit(t, e, 1, put(1, 1), put(1, 2))
	wantEpoch(t, "one loses", e, 1)
	wantEpoch(t, "a loser needs 8 bytes", e, 2)
	wantEpoch(t, "nobody needs 8 bytes", e)
	wantFull(t, "no byte is left", e)
	wantLog(t, "full", e, first, record(), record())
}

// P9

func TestResults(t *testing.T) {
	e := made(t, roomy())
	submit(t, e, 1, more(1, 1), more(1, 1), get(7)+abort())
	for id := 1; id <= 3; id++ {
		wantResult(t, "it waits", e, id, api.Pending)
	}
	wantEpoch(t, "one loses", e, 1, 3)
	wantResult(t, "decided", e, 1, api.Committed, 0)
	wantResult(t, "a loser's run told something", e, 2, api.Pending)
	wantResult(t, "decided", e, 3, api.RolledBack, 0)
	wantEpoch(t, "the loser", e, 2)
	wantResult(t, "it told what it saw then", e, 2, api.Committed, 1)
	wantResult(t, "decided long ago", e, 1, api.Committed, 0)
	for _, id := range []int{0, -1, 4, least, greatest, 1 << 32, 1<<32 + 1} {
		wantResult(t, "nobody was given it", e, id, api.Unknown)
	}
	submit(t, e, 4, "")
	wantResult(t, "it was given now", e, 4, api.Pending)
	wantEpoch(t, "it tells nothing", e, 4)
	wantResult(t, "it told nothing", e, 4, api.Committed)
}

func TestPairsAreByKeys(t *testing.T) {
	e := made(t, roomy())
	submit(t, e, 1, put(5, 1), put(greatest, 2), put(-5, 3), put(least, 4), put(0, 0))
	wantEpoch(t, "apart", e, 1, 2, 3, 4, 5)
	wantPairs(t, "by keys", e, api.Pair{Key: least, Value: 4}, api.Pair{Key: -5, Value: 3}, api.Pair{}, api.Pair{Key: 5, Value: 1}, api.Pair{Key: greatest, Value: 2})
	submit(t, e, 6, del(0)+del(77), del(5)+put(5, 9))
	wantEpoch(t, "some are deleted", e, 6, 7)
	wantPairs(t, "some are deleted", e, api.Pair{Key: least, Value: 4}, api.Pair{Key: -5, Value: 3}, api.Pair{Key: 5, Value: 9}, api.Pair{Key: greatest, Value: 2})
}

// Two hundred on one key: one in each epoch, in the order in which they came.
func TestAllOfThemComeToTheirTurn(t *testing.T) {
	c := api.Config{Workers: 16, Batch: 64, Queue: 200, Log: 100000}
	e := made(t, c)
	for i := range 200 {
		submit(t, e, i+1, more(9, 1))
	}
	for i := range 200 {
		wantEpoch(t, "one", e, i+1)
		wantResult(t, "one", e, i+1, api.Committed, i)
	}
	wantPairs(t, "all", e, api.Pair{Key: 9, Value: 200})
	if got := e.Waiting(); !slices.Equal(got, nil) {
		t.Errorf("%v wait", got)
	}
}

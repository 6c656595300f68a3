package heddle_test

import (
	"slices"
	"strings"
	"testing"

	"heddle/api"
	"heddle/heddle"
)

// A log without a record: all that waited is lost, but no number is given twice.
func TestRestartWithAnEmptyLog(t *testing.T) {
	e := made(t, roomy())
	again(t, e)
	wantView(t, "it was new", e, viewOf(made(t, roomy())))
	submit(t, e, 1, put(1, 1), "")
	again(t, e)
	wantView(t, "all is lost", e, viewOf(made(t, roomy())))
	submit(t, e, 3, put(1, 3))
	wantResult(t, "lost", e, 1, api.Unknown)
	wantEpoch(t, "it is up", e, 3)
	wantLog(t, "it is up", e, record(newcomer(3, put(1, 3))))
	wantPairs(t, "it is up", e, api.Pair{Key: 1, Value: 3})
}

// A log of whole records alone stays as it is, however often the engine goes down; so does all that was decided.
func TestRestartWithWholeRecords(t *testing.T) {
	e := made(t, api.Config{Workers: 3, Batch: 3, Queue: 20, Log: 1000})
	wantEpoch(t, "nobody", e)
	submit(t, e, 1, put(1, 5)+put(2, 6), get(2)+put(3, 7), more(2, 1)+abort())
	wantEpoch(t, "first", e, 3, 2, 1)
	submit(t, e, 4, more(1, 1), del(2), put(1, 9))
	wantEpoch(t, "second", e, 4, 5)
	wantEpoch(t, "third", e, 6)
	was := viewOf(e)
	for range 5 {
		again(t, e)
		wantView(t, "as it was", e, was)
	}
	wantPairs(t, "as it was", e, api.Pair{Key: 1, Value: 9}, api.Pair{Key: 3, Value: 7})
	wantResult(t, "as it was", e, 3, api.RolledBack, 0)
	wantResult(t, "as it was", e, 4, api.Committed, 5)
	submit(t, e, 7, more(1, 1))
	wantEpoch(t, "it goes on", e, 7)
	wantResult(t, "it goes on", e, 7, api.Committed, 9)
	wantLog(t, "it goes on", e, was.log, record(newcomer(7, more(1, 1))))
}

// The write of an epoch is torn behind each of its bytes: the epoch is in the log whole, or not at all.
func TestTornBehindEachByte(t *testing.T) {
	first := record(newcomer(1, more(1, 1)), newcomer(2, more(1, 10)))
	for what, c := range map[string]struct {
		codes  []string
		record string
		whole  func(e *heddle.Engine)
	}{
		"losers alone": {nil, record(), func(e *heddle.Engine) {
			wantWaiting(t, "losers alone", e)
			wantPairs(t, "losers alone", e, api.Pair{Key: 1, Value: 11})
			wantResult(t, "losers alone", e, 2, api.Committed, 1)
		}},
		"an empty code": {[]string{""}, record(newcomer(3, "")), func(e *heddle.Engine) {
			wantWaiting(t, "an empty code", e)
			wantResult(t, "an empty code", e, 3, api.Committed)
		}},
		"two, one of which loses": {[]string{get(1) + put(2, 2), more(2, 7)}, record(newcomer(3, get(1)+put(2, 2)), newcomer(4, more(2, 7))), func(e *heddle.Engine) {
			wantWaiting(t, "two", e, 4)
			wantPairs(t, "two", e, api.Pair{Key: 1, Value: 11}, api.Pair{Key: 2, Value: 2})
			wantResult(t, "two", e, 3, api.Committed, 1)
			wantResult(t, "two", e, 4, api.Pending)
		}},
		"more than a batch": {[]string{"", "", "", put(5, 5)}, record(newcomer(3, ""), newcomer(4, ""), newcomer(5, "")), func(e *heddle.Engine) {
			wantWaiting(t, "the batch alone is in the log", e)
			wantResult(t, "in the log", e, 5, api.Committed)
			wantResult(t, "lost", e, 6, api.Unknown)
		}},
	} {
		for _, bytes := range append(slices.Collect(count(len(c.record)+3)), greatest) {
			e := made(t, api.Config{Workers: 2, Batch: 4, Queue: 20, Log: 1000})
			submit(t, e, 1, more(1, 1), more(1, 10))
			wantEpoch(t, what, e, 1)
			submit(t, e, 3, c.codes...)
			was := viewOf(e)
			torn(t, e, bytes)
			was.log = first + c.record[:min(bytes, len(c.record))]
			wantView(t, what, e, was)
			want(t, "Restart", e.Restart(), api.OK)
			wantResult(t, what, e, 1, api.Committed, 0)
			if bytes < len(c.record) {
				wantLog(t, what+", torn", e, first)
				wantWaiting(t, what+", torn", e, 2)
				wantPairs(t, what+", torn", e, api.Pair{Key: 1, Value: 1})
				for id := 3; id < 8; id++ {
					wantResult(t, what+", torn", e, id, api.Unknown)
				}
			} else {
				wantLog(t, what+", whole", e, first, c.record)
				c.whole(e)
			}
			was = viewOf(e)
			again(t, e)
			wantView(t, what+", twice down", e, was)
			submit(t, e, 3+len(c.codes), "")
		}
	}
}

// count gives 0 to so many.
func count(most int) func(func(int) bool) {
	return func(yield func(int) bool) {
		for i := 0; i <= most && yield(i); i++ {
		}
	}
}

// A torn write in an empty log, and one torn write behind the other.
func TestTornAgainAndAgain(t *testing.T) {
	e := made(t, roomy())
	log := ""
	for i := range 40 {
		submit(t, e, i+1, more(1, 1))
		one := record(newcomer(i+1, more(1, 1)))
		torn(t, e, i)
		wantLog(t, "torn", e, log, one[:min(i, len(one))])
		want(t, "Restart", e.Restart(), api.OK)
		wantLog(t, "cut", e, log)
		wantResult(t, "lost", e, i+1, api.Unknown)
		wantEpoch(t, "nobody", e)
		log += record()
	}
	wantPairs(t, "nothing was done", e)
}

// Losers wait as they did: in their order, ahead of what comes then, no newcomers any more.
func TestLosersBehindARestart(t *testing.T) {
	e := made(t, api.Config{Workers: 4, Batch: 4, Queue: 6, Log: 1000})
	submit(t, e, 1, more(1, 1), more(1, 10), more(2, 1), more(1, 100), more(3, 1), "")
	wantEpoch(t, "two of four lose", e, 1, 3)
	wantWaiting(t, "two of four lose", e, 2, 4, 5, 6)
	log := e.Log()
	again(t, e)
	wantWaiting(t, "losers wait, newcomers are lost", e, 2, 4)
	wantResult(t, "a loser", e, 4, api.Pending)
	wantResult(t, "lost", e, 5, api.Unknown)
	wantResult(t, "lost", e, 6, api.Unknown)
	submit(t, e, 7, more(2, 1), more(1, 1000), "", "")
	refused(t, "losers fill the queue too", e, "", api.ErrFull)
	wantEpoch(t, "losers and newcomers", e, 2, 7)
	wantLog(t, "losers stand in it once", e, log, record(newcomer(7, more(2, 1)), newcomer(8, more(1, 1000))))
	wantWaiting(t, "one loses a second time", e, 4, 8, 9, 10)
	again(t, e)
	wantWaiting(t, "losers of the last epoch", e, 4, 8)
	wantEpoch(t, "third", e, 4)
	again(t, e)
	wantEpoch(t, "fourth", e, 8)
	again(t, e)
	wantPairs(t, "all", e, api.Pair{Key: 1, Value: 1111}, api.Pair{Key: 2, Value: 2})
	wantResult(t, "what it saw at last", e, 8, api.Committed, 111)
	wantWaiting(t, "all", e)
}

// As many losers as may be, behind as many epochs.
func TestManyLosersBehindRestarts(t *testing.T) {
	e := made(t, api.Config{Workers: 16, Batch: 64, Queue: 200, Log: 100000})
	for i := range 64 {
		submit(t, e, i+1, more(9, 1))
	}
	for i := range 64 {
		wantEpoch(t, "one", e, i+1)
		again(t, e)
		wantResult(t, "one", e, i+1, api.Committed, i)
		if got := e.Waiting(); len(got) != 63-i {
			t.Fatalf("%v wait behind epoch %d", got, i+1)
		}
	}
	wantPairs(t, "all", e, api.Pair{Key: 9, Value: 64})
}

// What a torn epoch took waits, if an epoch that is in the log took it before.
func TestLoserOfATornEpoch(t *testing.T) {
	e := made(t, roomy())
	submit(t, e, 1, more(1, 1), more(1, 10), more(1, 100))
	wantEpoch(t, "two lose", e, 1)
	submit(t, e, 4, put(4, 4))
	torn(t, e, 9)
	want(t, "Restart", e.Restart(), api.OK)
	wantWaiting(t, "it was taken in vain", e, 2, 3)
	wantEpoch(t, "once more", e, 2)
	wantResult(t, "once more", e, 2, api.Committed, 1)
	wantPairs(t, "once more", e, api.Pair{Key: 1, Value: 11})
}

// Numbers go on behind all that were ever given, lost or not; a lost one stays unknown.
func TestNumbersBehindRestarts(t *testing.T) {
	e := made(t, roomy())
	for i := range 20 {
		submit(t, e, 2*i+1, put(1, i), put(2, i))
		refused(t, "no procedure", e, "\x00", api.ErrCode)
		if i%2 == 0 {
			wantEpoch(t, "they stay", e, 2*i+1, 2*i+2)
		}
		again(t, e)
		refused(t, "no procedure", e, "\x00", api.ErrCode)
		wantWaiting(t, "nobody", e)
	}
	for id := 1; id <= 40; id++ {
		wantResult(t, "every second epoch", e, id, []int{api.Committed, api.Unknown}[(id-1)/2%2])
	}
	wantResult(t, "not given yet", e, 41, api.Unknown)
	wantPairs(t, "the last one that stayed", e, api.Pair{Key: 1, Value: 18}, api.Pair{Key: 2, Value: 18})
}

// What waited without being in the log makes room: in the queue, and in the log for a torn record.
func TestRoomBehindARestart(t *testing.T) {
	c := api.Config{Workers: 1, Batch: 2, Queue: 2, Log: 64}
	e := made(t, c)
	submit(t, e, 1, "", "")
	refused(t, "full", e, "", api.ErrFull)
	again(t, e)
	submit(t, e, 3, "", "")
	torn(t, e, 19)
	want(t, "Restart", e.Restart(), api.OK)
	for range 8 {
		wantEpoch(t, "all the room is there again", e)
	}
	wantFull(t, "now it is full", e)
	again(t, e)
	wantFull(t, "it is full still", e)
	wantLog(t, "full", e, strings.Repeat(record(), 8))
}

// As many epochs as a log may have.
func TestRestartOfAFullLog(t *testing.T) {
	e := made(t, api.Config{Workers: 2, Batch: 2, Queue: 2, Log: 100000})
	submit(t, e, 1, put(1, 1), put(1, 2))
	for {
		if _, err := e.Epoch(); err != api.OK {
			break
		}
	}
	log := e.Log()
	again(t, e)
	wantLog(t, "full", e, log)
	wantFull(t, "full", e)
	wantPairs(t, "full", e, api.Pair{Key: 1, Value: 2})
}

// What one engine loses and finds again touches no other.
func TestRestartsAreApart(t *testing.T) {
	one, other := busy(t), busy(t)
	again(t, one)
	wantBusy(t, other)
	wantEpoch(t, "the other one is up, and unarmed", other, 3, 5)
	torn(t, other, 20)
	submit(t, one, 6, put(1, 77))
	wantEpoch(t, "one is up", one, 3)
	wantWaiting(t, "one", one, 6)
	want(t, "Restart", other.Restart(), api.OK)
	wantPairs(t, "the other one", other, api.Pair{Key: 1, Value: 6}, api.Pair{Key: 2, Value: 9}, api.Pair{Key: 3, Value: 4})
}

package heddle_test

import (
	"testing"

	"heddle/api"
	"heddle/heddle"
)

// An engine that is down refuses with ErrDown, whatever else is wrong (but for Arm, which names ErrArg first), and nothing changes by it.
func TestDownRefuses(t *testing.T) {
	for what, goDown := range map[string]func(*heddle.Engine){
		"by Crash":         func(e *heddle.Engine) { want(t, "Crash", e.Crash(), api.OK) },
		"by a torn write":  func(e *heddle.Engine) { torn(t, e, 3) },
		"by a whole write": func(e *heddle.Engine) { torn(t, e, greatest) },
	} {
		e := made(t, api.Config{Workers: 2, Batch: 2, Queue: 2, Log: 97})
		submit(t, e, 1, more(1, 1), put(1, 2))
		wantEpoch(t, what, e, 1)
		submit(t, e, 3, "")
		goDown(e)
		was := viewOf(e)
		for _, code := range []string{"", put(1, 1), "\x00", filled(100)} {
			refused(t, what, e, code, api.ErrDown)
		}
		wantDown(t, what, e)
		for _, bytes := range []int{0, 1, 8, greatest} {
			want(t, "Arm, down", e.Arm(bytes), api.ErrDown)
		}
		for _, bytes := range []int{-1, least} {
			want(t, "Arm, down and below 0", e.Arm(bytes), api.ErrArg)
		}
		want(t, "Crash, down", e.Crash(), api.ErrDown)
		wantDown(t, what, e)
		wantView(t, what, e, was)
		want(t, "Restart", e.Restart(), api.OK)
		want(t, "Restart, up", e.Restart(), api.ErrDown)
		if _, err := e.Epoch(); err != api.OK {
			t.Errorf("%s: Epoch behind it = %d: an Arm that was refused has armed it", what, err)
		}
	}
}

// An epoch that would not fit, of an engine that is down: ErrDown comes first.
func TestDownComesAheadOfFull(t *testing.T) {
	c := roomy()
	c.Log = 64
	e := made(t, c)
	submit(t, e, 1, filled(51))
	wantFull(t, "up", e)
	want(t, "Crash", e.Crash(), api.OK)
	wantDown(t, "down", e)
}

// What an engine that is down tells is what stood when it went down: nothing that a Restart will find, or lose, is seen yet.
func TestDownTellsWhatStood(t *testing.T) {
	for _, bytes := range []int{-1, 0, 5, 1000} {
		e := made(t, api.Config{Workers: 2, Batch: 2, Queue: 20, Log: 1000})
		submit(t, e, 1, more(1, 1), more(1, 2), put(2, 2), get(7)+abort())
		wantEpoch(t, "one loses", e, 1)
		was := viewOf(e)
		if bytes < 0 {
			want(t, "Crash", e.Crash(), api.OK)
		} else {
			torn(t, e, bytes)
			was.log += record(newcomer(3, put(2, 2)))[:min(bytes, 37)]
		}
		wantView(t, "down", e, was)
		wantWaiting(t, "down", e, 2, 3, 4)
		wantResult(t, "down", e, 1, api.Committed, 0)
		wantResult(t, "down", e, 2, api.Pending)
		wantResult(t, "down", e, 3, api.Pending)
		wantResult(t, "down", e, 4, api.Pending)
		wantPairs(t, "down", e, api.Pair{Key: 1, Value: 1})
	}
}

func TestArmRefuses(t *testing.T) {
	e := made(t, roomy())
	for _, bytes := range []int{-1, -8, least} {
		want(t, "Arm", e.Arm(bytes), api.ErrArg)
	}
	wantEpoch(t, "it is not armed", e)
	want(t, "Arm", e.Arm(5), api.OK)
	want(t, "Arm", e.Arm(-1), api.ErrArg)
	wantDown(t, "it is armed as before", e)
	wantLog(t, "as before", e, record(), record()[:5])
}

// The number that was told last counts.
func TestArmOnceMore(t *testing.T) {
	for _, c := range [][]int{{3, 6}, {6, 3}, {0, 7}, {7, 0}, {0, 100}, {100, 0}, {2, 2}, {greatest, 1, 4}} {
		e := made(t, roomy())
		for _, bytes := range c {
			want(t, "Arm", e.Arm(bytes), api.OK)
		}
		wantDown(t, "armed", e)
		wantLog(t, "the last number", e, record()[:min(c[len(c)-1], 8)])
	}
}

// All goes on in an armed engine until its next epoch.
func TestArmedGoesOn(t *testing.T) {
	e := busy(t)
	want(t, "Arm", e.Arm(0), api.OK)
	wantBusy(t, e)
	submit(t, e, 6, "")
	refused(t, "armed", e, "\x00", api.ErrCode)
	want(t, "Restart", e.Restart(), api.ErrDown)
	wantWaiting(t, "armed", e, 3, 5, 6)
	wantDown(t, "armed still", e)
}

// A record that does not fit is not torn: nothing is done, and the engine stays up. A Crash disarms it.
func TestArmedEpochThatDoesNotFit(t *testing.T) {
	for _, bytes := range []int{0, 3, 8, 64, 65, greatest} {
		c := roomy()
		c.Log = 64
		e := made(t, c)
		wantEpoch(t, "first", e)
		submit(t, e, 1, put(1, 1)+filled(20))
		want(t, "Arm", e.Arm(bytes), api.OK)
		for range 2 {
			wantFull(t, "one byte too many", e)
			wantLog(t, "nothing is written", e, record())
			wantWaiting(t, "nothing is done", e, 1)
		}
		submit(t, e, 2, "")
		again(t, e)
		wantWaiting(t, "lost", e)
		wantEpoch(t, "it is disarmed", e)
		wantLog(t, "disarmed", e, record(), record())
	}
}

// One that just fits is torn like all others.
func TestArmedEpochThatJustFits(t *testing.T) {
	for _, bytes := range []int{0, 63, 64, 65} {
		c := roomy()
		c.Log = 64
		e := made(t, c)
		code := put(1, 1) + filled(27)
		submit(t, e, 1, code)
		torn(t, e, bytes)
		wantLog(t, "just", e, record(newcomer(1, code))[:min(bytes, 64)])
	}
}

func TestGoingDownDisarms(t *testing.T) {
	for _, bytes := range []int{0, 4, 8, 100} {
		e := made(t, roomy())
		want(t, "Arm", e.Arm(bytes), api.OK)
		again(t, e)
		wantEpoch(t, "behind a Crash", e)
		torn(t, e, bytes)
		want(t, "Restart", e.Restart(), api.OK)
		wantEpoch(t, "behind a torn write", e)
		wantEpoch(t, "and once more", e)
	}
}

func TestRestartOfOneThatIsUp(t *testing.T) {
	e := made(t, roomy())
	want(t, "Restart, new", e.Restart(), api.ErrDown)
	e = busy(t)
	want(t, "Restart, busy", e.Restart(), api.ErrDown)
	wantBusy(t, e)
	again(t, e)
	submit(t, e, 6, "")
	want(t, "Restart, up again", e.Restart(), api.ErrDown)
	wantWaiting(t, "nothing has changed", e, 3, 6)
}

// Lists that come out of an engine that is down, or has come up, are the caller's.
func TestListsAreTheCallersDownAndUp(t *testing.T) {
	e := busy(t)
	was := viewOf(e)
	want(t, "Crash", e.Crash(), api.OK)
	spoilAll(e)
	wantView(t, "down", e, was)
	want(t, "Restart", e.Restart(), api.OK)
	spoilAll(e)
	wantWaiting(t, "up", e, 3)
	wantPairs(t, "up", e, was.pairs...)
	wantResult(t, "up", e, 2, api.Committed, 0, 0)
}

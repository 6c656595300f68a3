package heddle

import (
	"heddle/api"
	"heddle/journal"
	"heddle/machine"
)

// goDown leaves all else as it is: it is what the engine tells while it is down.
func (e *Engine) goDown() {
	e.down = true
	e.armed, e.room = false, 0
}

// forget leaves of an engine what no epoch made: its log, and the numbers that are given.
func (e *Engine) forget() {
	e.waiting = nil
	e.stands = machine.Snapshot{}
	e.decided = map[int]api.Outcome{}
}

// replay runs the epochs of the log anew and cuts off what is no whole record. The losers of an epoch and the newcomers of the next one are just what that one took: losers are fewer than a batch, and wait ahead of all others.
func (e *Engine) replay() {
	rest := e.log
	for {
		newcomers, behind, ok := journal.Cut(rest)
		if !ok {
			break
		}
		e.waiting = append(e.waiting, transactions(newcomers)...)
		e.weave(e.front())
		rest = behind
	}
	e.log = e.log[:len(e.log)-len(rest)]
}

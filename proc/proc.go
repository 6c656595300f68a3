// Package proc: procedures: see DOC.md.
package proc

import (
	"heddle/api"
	"heddle/machine"
)

// Check looks whether a code is a procedure (P3).
func Check(code string) api.Errno {
	if !machine.IsProcedure(code) {
		return api.ErrCode
	}
	return api.OK
}

// Run runs a procedure alone, on what stands under keys (P4).
func Run(code string, pairs []api.Pair) (api.Outcome, []api.Pair, api.Errno) {
	snapshot, ok := byKey(pairs)
	if !ok {
		return api.Outcome{}, nil, api.ErrArg
	}
	run, ok := machine.Execute(code, snapshot)
	if !ok {
		return api.Outcome{}, nil, api.ErrCode
	}
	snapshot.Settle(run)
	return run.Outcome, snapshot.Pairs(), api.OK
}

// byKey answers false if a key is told twice.
func byKey(pairs []api.Pair) (machine.Snapshot, bool) {
	snapshot := make(machine.Snapshot, len(pairs))
	for _, p := range pairs {
		if _, twice := snapshot[p.Key]; twice {
			return nil, false
		}
		snapshot[p.Key] = p.Value
	}
	return snapshot, true
}

// Package epoch: runs procedures many at once on one snapshot, and says who of them may stay, and in which order.
package epoch

import (
	"slices"

	"heddle/machine"
)

// Result is what came of an epoch. All are told by their positions.
type Result struct {
	Runs    []machine.Run // of losers too, one at each position
	Decided []int         // in the epoch's order
	Losers  []int         // in their order
}

// Run runs the procedures of an epoch, the position of each being its place in the list. The snapshot stays as it is.
func Run(workers int, codes []string, snapshot machine.Snapshot) Result {
	runs := make([]machine.Run, len(codes))
	table := newTable(len(codes))
	share(workers, len(codes), func(position int) {
		// That it is a procedure was asked when it came to wait.
		runs[position], _ = machine.Execute(codes[position], snapshot)
		table.enter(position, runs[position])
	})
	// Apart from the first round: who loses hangs on all that are in the table.
	verdicts := make([]verdict, len(codes))
	share(workers, len(codes), func(position int) {
		verdicts[position] = table.judge(position, runs[position])
	})
	decided, losers := order(verdicts)
	return Result{Runs: runs, Decided: decided, Losers: losers}
}

// order tells the positions that are decided in the epoch's order, and those that lose in their own.
func order(verdicts []verdict) (decided, losers []int) {
	var ahead, behind []int
	for position, v := range verdicts {
		switch {
		case v.loses():
			losers = append(losers, position)
		case v.readsWritten:
			ahead = append(ahead, position)
		default:
			behind = append(behind, position)
		}
	}
	slices.Reverse(ahead)
	return append(ahead, behind...), losers
}

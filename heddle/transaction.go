package heddle

import (
	"heddle/epoch"
	"heddle/journal"
)

// transaction is one that waits.
type transaction struct {
	number int
	code   string
	taken  bool // by an epoch, which it lost: it stands in the log
}

func numbers(list []transaction) []int {
	told := make([]int, len(list))
	for i, t := range list {
		told[i] = t.number
	}
	return told
}

func codes(list []transaction) []string {
	told := make([]string, len(list))
	for i, t := range list {
		told[i] = t.code
	}
	return told
}

// newcomers leaves out those that an earlier epoch took.
func newcomers(list []transaction) []journal.Newcomer {
	var told []journal.Newcomer
	for _, t := range list {
		if !t.taken {
			told = append(told, journal.Newcomer{Number: t.number, Code: t.code})
		}
	}
	return told
}

// transactions is what newcomers were when they came to wait.
func transactions(list []journal.Newcomer) []transaction {
	told := make([]transaction, len(list))
	for i, n := range list {
		told[i] = transaction{number: n.Number, code: n.Code}
	}
	return told
}

// front is what the next epoch takes.
func (e *Engine) front() []transaction {
	return e.waiting[:min(e.config.Batch, len(e.waiting))]
}

// weave runs an epoch of the front, which stands in the log already, and tells the numbers of those that are decided.
func (e *Engine) weave(front []transaction) []int {
	result := epoch.Run(e.config.Workers, codes(front), e.stands)
	decided := make([]int, 0, len(result.Decided))
	for _, position := range result.Decided {
		run, number := result.Runs[position], front[position].number
		e.stands.Settle(run)
		e.decided[number] = run.Outcome
		decided = append(decided, number)
	}
	e.waiting = left(front, result.Losers, e.waiting[len(front):])
	return decided
}

// left is who waits behind an epoch: its losers, then the others. It is a new list, so that nothing is kept of those that are decided.
func left(front []transaction, losers []int, others []transaction) []transaction {
	list := make([]transaction, 0, len(losers)+len(others))
	for _, position := range losers {
		loser := front[position]
		loser.taken = true
		list = append(list, loser)
	}
	return append(list, others...)
}

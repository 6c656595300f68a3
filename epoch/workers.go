package epoch

import (
	"sync"
	"sync/atomic"
)

// share lets workers take position after position, and answers when all positions are done and all workers have ended.
func share(workers, positions int, do func(position int)) {
	var taken atomic.Int64
	var group sync.WaitGroup
	for range min(workers, positions) {
		group.Add(1)
		go func() {
			defer group.Done()
			for {
				position := int(taken.Add(1)) - 1
				if position >= positions {
					return
				}
				do(position)
			}
		}()
	}
	group.Wait()
}

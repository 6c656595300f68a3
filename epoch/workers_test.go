package epoch

import (
	"runtime"
	"slices"
	"sync"
	"testing"

	"heddle/api"
)

// Each position is taken once, by however many workers.
func TestShareTakesEachPositionOnce(t *testing.T) {
	for _, workers := range []int{1, 2, 3, 15, api.MaxWorkers} {
		for _, positions := range []int{0, 1, 2, 16, api.MaxBatch} {
			taken := make([]int, positions)
			var lock sync.Mutex
			share(workers, positions, func(position int) {
				lock.Lock()
				defer lock.Unlock()
				taken[position]++
			})
			for position, times := range taken {
				if times != 1 {
					t.Errorf("%d workers: position %d of %d was taken %d times", workers, position, positions, times)
				}
			}
		}
	}
}

// As many workers as there are to be are at it at once: each waits here until all have come. With fewer this would never end.
func TestShareHasThatManyWorkers(t *testing.T) {
	for workers := 1; workers <= api.MaxWorkers; workers++ {
		var all sync.WaitGroup
		all.Add(workers)
		share(workers, workers, func(int) {
			all.Done()
			all.Wait()
		})
	}
}

// Nor are there more of them.
func TestShareHasNoMoreWorkers(t *testing.T) {
	for _, workers := range []int{1, 4} {
		var lock sync.Mutex
		now, most := 0, 0
		count := func(n int) {
			lock.Lock()
			defer lock.Unlock()
			now += n
			most = max(most, now)
		}
		share(workers, 500, func(int) {
			count(1)
			runtime.Gosched()
			count(-1)
		})
		if most > workers {
			t.Errorf("%d workers: %d at once", workers, most)
		}
	}
}

// One worker takes position after position.
func TestShareByOneIsInOrder(t *testing.T) {
	var got []int
	share(1, 5, func(position int) { got = append(got, position) })
	if !slices.Equal(got, []int{0, 1, 2, 3, 4}) {
		t.Errorf("%v", got)
	}
}

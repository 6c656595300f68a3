package epoch

import (
	"sync"
	"testing"
	"time"
)

// ends tells whether something ends in time; where it waits for a lock, it does not.
func ends(do func(), limit <-chan time.Time) bool {
	done := make(chan struct{})
	go func() {
		defer close(done)
		do()
	}()
	select {
	case <-done:
		return true
	case <-limit:
		return false
	}
}

// Each part is locked by itself: who holds one holds up nobody at another, and everybody at that one.
func TestPartsAreLockedEachByItself(t *testing.T) {
	table := newTable(5)
	held := table.part(1)
	long := time.After(time.Minute)
	for _, c := range []struct {
		what string
		use  func(key int)
	}{
		{"read", func(key int) { table.part(key).read(key, 2) }},
		{"write", func(key int) { table.part(key).write(key, 3) }},
		{"users", func(key int) { table.part(key).users(key) }},
	} {
		held.Lock()
		for key := 2; key <= parts; key++ {
			if !ends(func() { c.use(key) }, long) {
				t.Errorf("%s: the key %d waits for another part", c.what, key)
			}
		}
		if ends(func() { c.use(1) }, time.After(30*time.Millisecond)) {
			t.Errorf("%s: the key 1 does not wait for its part", c.what)
		}
		held.Unlock()
		if !ends(func() { c.use(1) }, long) {
			t.Errorf("%s: the part is still locked", c.what)
		}
	}
}

// The smallest position stays, whoever came first.
func TestTableKeepsTheSmallest(t *testing.T) {
	table := newTable(5)
	for _, c := range []struct {
		key, position int
		read          bool
		want          users
	}{
		{7, 3, true, users{3, 5}},
		{7, 4, true, users{3, 5}},
		{7, 4, false, users{3, 4}},
		{7, 0, true, users{0, 4}},
		{7, 2, false, users{0, 2}},
		{7 + parts, 1, false, users{5, 1}},
		{-7, 4, false, users{5, 4}},
	} {
		if c.read {
			table.part(c.key).read(c.key, c.position)
		} else {
			table.part(c.key).write(c.key, c.position)
		}
		if got := table.part(c.key).users(c.key); got != c.want {
			t.Errorf("the key %d behind position %d: %v, want %v", c.key, c.position, got, c.want)
		}
	}
	if got := table.part(8).users(8); got != (users{5, 5}) {
		t.Errorf("a key that nobody uses: %v", got)
	}
}

// Every worker enters every key, all at once.
func TestTableTakesManyAtOnce(t *testing.T) {
	const workers, keys = 16, 300
	table := newTable(workers)
	var group sync.WaitGroup
	for worker := range workers {
		group.Go(func() {
			for key := range keys {
				table.part(key).read(key, worker)
				table.part(key).write(key, workers-1-worker)
			}
		})
	}
	group.Wait()
	for key := range keys {
		if got := table.part(key).users(key); got != (users{0, 0}) {
			t.Fatalf("the key %d: %v", key, got)
		}
	}
}

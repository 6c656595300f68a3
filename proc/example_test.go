package proc_test

import (
	"fmt"

	"heddle/api"
	"heddle/proc"
)

// One more under the key 0, and what stood there is told.
func ExampleRun() {
	code := string([]byte{
		api.Get, 1, 0,
		api.Emit, 1,
		api.Const, 2, 0, 0, 0, 0, 0, 0, 0, 1,
		api.Add, 1, 1, 2,
		api.Put, 0, 1,
	})
	outcome, pairs, e := proc.Run(code, []api.Pair{{Key: 3, Value: 4}, {Key: 0, Value: 6}})
	fmt.Println(outcome.State == api.Committed, outcome.Told, pairs, e == api.OK)
	// Output: true [6] [{0 7} {3 4}] true
}

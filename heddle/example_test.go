package heddle_test

import (
	"fmt"

	"heddle/api"
	"heddle/heddle"
)

// Two transactions want one more under the key 0: one of them has to try again.
func ExampleEngine() {
	code := string([]byte{
		api.Get, 1, 0,
		api.Emit, 1,
		api.Const, 2, 0, 0, 0, 0, 0, 0, 0, 1,
		api.Add, 1, 1, 2,
		api.Put, 0, 1,
	})
	e, _ := heddle.New(api.Config{Workers: 4, Batch: 10, Queue: 20, Log: 1000})
	e.Submit(code)
	e.Submit(code)
	decided, _ := e.Epoch()
	fmt.Println(decided, e.Waiting(), e.Pairs())
	decided, _ = e.Epoch()
	fmt.Println(decided, e.Waiting(), e.Pairs(), e.Result(2).Told)
	// Output:
	// [1] [2] [{0 1}]
	// [2] [] [{0 2}] [1]
}

// The write of an epoch is torn: what it took is lost, what was decided before stays.
func ExampleEngine_Restart() {
	code := string([]byte{api.Get, 1, 0, api.Emit, 1, api.Put, 0, 0})
	e, _ := heddle.New(api.Config{Workers: 4, Batch: 10, Queue: 20, Log: 1000})
	e.Submit(code)
	e.Epoch()
	e.Submit(code)
	e.Arm(10)
	_, err := e.Epoch()
	fmt.Println(err == api.ErrDown, e.Result(2).State == api.Pending, len(e.Log()))
	e.Restart()
	fmt.Println(e.Result(1).State == api.Committed, e.Result(2).State == api.Unknown, len(e.Log()))
	next, _ := e.Submit(code)
	fmt.Println(next)
	// Output:
	// true true 32
	// true true 22
	// 3
}

package epoch

import (
	"encoding/binary"

	"heddle/api"
)

// con is a Const; op is any other instruction.
func con(r byte, n int) string {
	return string(binary.BigEndian.AppendUint64([]byte{api.Const, r}, uint64(n)))
}

func op(kind byte, operands ...byte) string {
	return string(append([]byte{kind}, operands...))
}

// get tells what stands under a key; has only asks for it.
func get(key int) string    { return con(1, key) + op(api.Get, 2, 1) + op(api.Emit, 2) }
func has(key int) string    { return con(1, key) + op(api.Has, 2, 1) }
func put(key, n int) string { return con(1, key) + con(2, n) + op(api.Put, 1, 2) }
func del(key int) string    { return con(1, key) + op(api.Del, 1) }
func abort() string         { return op(api.Abort) }

// lost is a procedure of two instructions, key and what is done with it, that are passed over.
func lost(code string) string { return con(3, 1) + op(api.Less, 0, 3, 2) + code }

// numbers gives the same row of numbers below a bound in every run.
func numbers(from uint64) func(below int) int {
	return func(below int) int {
		from = from*6364136223846793005 + 1442695040888963407
		return int(from >> 33 % uint64(below))
	}
}

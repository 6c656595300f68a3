package proc_test

import (
	"encoding/binary"

	"heddle/api"
)

const (
	least    = -1 << 63
	greatest = 1<<63 - 1
)

// con is a Const; op is any other instruction.
func con(r byte, n int) string {
	return string(binary.BigEndian.AppendUint64([]byte{api.Const, r}, uint64(n)))
}

func op(kind byte, operands ...byte) string {
	return string(append([]byte{kind}, operands...))
}

// emit tells several registers, one behind the other.
func emit(registers ...byte) string {
	code := ""
	for _, r := range registers {
		code += op(api.Emit, r)
	}
	return code
}

// whole is one well formed instruction of each kind but Less, which hangs on what comes behind it.
func whole() []string {
	return []string{
		con(7, least),
		op(api.Get, 7, 0),
		op(api.Has, 0, 7),
		op(api.Put, 7, 7),
		op(api.Del, 7),
		op(api.Add, 7, 0, 7),
		op(api.Sub, 0, 7, 7),
		op(api.Mul, 7, 7, 0),
		op(api.Emit, 7),
		op(api.Abort),
	}
}

// numbers gives the same row of numbers below a bound in every run.
func numbers(from uint64) func(below int) int {
	return func(below int) int {
		from = from*6364136223846793005 + 1442695040888963407
		return int(from >> 33 % uint64(below))
	}
}

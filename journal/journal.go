// Package journal: the bytes of the log, as they are written and as they are read again.
package journal

// Newcomer is a transaction that no earlier epoch took.
type Newcomer struct {
	Number int
	Code   string
}

// The sizes in bytes of what stands in a record.
const (
	lengthSize = 4
	numberSize = 4
	codeSize   = 2
	sumSize    = 4
)

// Record is the record of an epoch, whose newcomers are told by positions.
func Record(newcomers []Newcomer) []byte {
	record := appendNumber(nil, length(newcomers), lengthSize)
	for _, n := range newcomers {
		record = appendNumber(record, n.Number, numberSize)
		record = appendNumber(record, len(n.Code), codeSize)
		record = append(record, n.Code...)
	}
	return appendNumber(record, int(sum(record)), sumSize)
}

// length counts all bytes of a record, its length and its sum too.
func length(newcomers []Newcomer) int {
	size := lengthSize + sumSize
	for _, n := range newcomers {
		size += numberSize + codeSize + len(n.Code)
	}
	return size
}

// appendNumber lays down the lowest bytes of a number, the highest of them first.
func appendNumber(to []byte, number, size int) []byte {
	for i := size - 1; i >= 0; i-- {
		to = append(to, byte(number>>(8*i)))
	}
	return to
}

func sum(of []byte) uint32 {
	s := uint32(2166136261)
	for _, b := range of {
		s = (s ^ uint32(b)) * 16777619
	}
	return s
}

package journal_test

import (
	"bytes"
	"encoding/binary"
	"hash/fnv"
	"strings"
	"testing"

	"heddle/journal"
)

// summed lays the sum, as the library knows it by its own name, behind bytes.
func summed(text string) []byte {
	sum := fnv.New32a()
	sum.Write([]byte(text))
	return sum.Sum([]byte(text))
}

func TestRecord(t *testing.T) {
	long := strings.Repeat("\x01\x07\xff\xfe\xfd\xfc\xfb\xfa\xf9\xf8", 256) // as long as a procedure may be
	for _, c := range []struct {
		what string
		list []journal.Newcomer
		want string
	}{
		{"nobody", nil, "\x00\x00\x00\x08"},
		{"an empty code", []journal.Newcomer{{Number: 1}}, "\x00\x00\x00\x0e" + "\x00\x00\x00\x01\x00\x00"},
		{"one", []journal.Newcomer{{Number: 2, Code: "\x0a\x00"}}, "\x00\x00\x00\x10" + "\x00\x00\x00\x02\x00\x02\x0a\x00"},
		{"by positions, not by numbers", []journal.Newcomer{{Number: 9, Code: "\x0b"}, {Number: 3, Code: "\x0b\x0b"}}, "\x00\x00\x00\x17" + "\x00\x00\x00\x09\x00\x01\x0b" + "\x00\x00\x00\x03\x00\x02\x0b\x0b"},
		{"great numbers", []journal.Newcomer{{Number: 0x01020304, Code: "\x0b"}, {Number: 0xfffefdfc}}, "\x00\x00\x00\x15" + "\x01\x02\x03\x04\x00\x01\x0b" + "\xff\xfe\xfd\xfc\x00\x00"},
		{"a long code", []journal.Newcomer{{Number: 5, Code: long}}, "\x00\x00\x0a\x0e" + "\x00\x00\x00\x05\x0a\x00" + long},
	} {
		if got, want := journal.Record(c.list), summed(c.want); !bytes.Equal(got, want) {
			t.Errorf("%s: %x, want %x", c.what, got, want)
		}
	}
}

// The sum of the document's own words, reckoned by hand: from 2166136261 on XOR, then times 16777619.
func TestSumOfTheEmptyRecord(t *testing.T) {
	want := uint64(2166136261)
	for _, b := range []uint64{0, 0, 0, 8} {
		want = (want ^ b) * 16777619 % (1 << 32)
	}
	got := journal.Record(nil)
	if len(got) != 8 || uint64(binary.BigEndian.Uint32(got[4:])) != want {
		t.Errorf("%x, want the sum %x", got, want)
	}
}

// The length of a whole epoch of the longest procedures needs three bytes.
func TestLengthOfManyLongOnes(t *testing.T) {
	list := make([]journal.Newcomer, 64)
	for i := range list {
		list[i] = journal.Newcomer{Number: i + 1, Code: strings.Repeat("\x01", 2560)}
	}
	got := journal.Record(list)
	if want := 8 + 64*(6+2560); len(got) != want || int(binary.BigEndian.Uint32(got)) != want {
		t.Errorf("%d bytes, told as %x, want %d", len(got), got[:4], want)
	}
}

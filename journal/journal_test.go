package journal_test

import (
	"bytes"
	"encoding/binary"
	"hash/fnv"
	"slices"
	"strings"
	"testing"

	"heddle/journal"
)

// summed lays the sum, as the library knows it by its own name, behind bytes.
func summed(text string) []byte {
	sum := fnv.New32a()
	sum.Write([]byte(text))
	return sum.Sum([]byte(text))
}

func TestRecord(t *testing.T) {
	long := strings.Repeat("\x01\x07\xff\xfe\xfd\xfc\xfb\xfa\xf9\xf8", 256) // as long as a procedure may be
	for _, c := range []struct {
		what string
		list []journal.Newcomer
		want string
	}{
		{"nobody", nil, "\x00\x00\x00\x08"},
		{"an empty code", []journal.Newcomer{{Number: 1}}, "\x00\x00\x00\x0e" + "\x00\x00\x00\x01\x00\x00"},
		{"one", []journal.Newcomer{{Number: 2, Code: "\x0a\x00"}}, "\x00\x00\x00\x10" + "\x00\x00\x00\x02\x00\x02\x0a\x00"},
		{"by positions, not by numbers", []journal.Newcomer{{Number: 9, Code: "\x0b"}, {Number: 3, Code: "\x0b\x0b"}}, "\x00\x00\x00\x17" + "\x00\x00\x00\x09\x00\x01\x0b" + "\x00\x00\x00\x03\x00\x02\x0b\x0b"},
		{"great numbers", []journal.Newcomer{{Number: 0x01020304, Code: "\x0b"}, {Number: 0xfffefdfc}}, "\x00\x00\x00\x15" + "\x01\x02\x03\x04\x00\x01\x0b" + "\xff\xfe\xfd\xfc\x00\x00"},
		{"a long code", []journal.Newcomer{{Number: 5, Code: long}}, "\x00\x00\x0a\x0e" + "\x00\x00\x00\x05\x0a\x00" + long},
	} {
		if got, want := journal.Record(c.list), summed(c.want); !bytes.Equal(got, want) {
			t.Errorf("%s: %x, want %x", c.what, got, want)
		}
	}
}

// The sum of the document's own words, reckoned by hand: from 2166136261 on XOR, then times 16777619.
func TestSumOfTheEmptyRecord(t *testing.T) {
	want := uint64(2166136261)
	for _, b := range []uint64{0, 0, 0, 8} {
		want = (want ^ b) * 16777619 % (1 << 32)
	}
	got := journal.Record(nil)
	if len(got) != 8 || uint64(binary.BigEndian.Uint32(got[4:])) != want {
		t.Errorf("%x, want the sum %x", got, want)
	}
}

// The length of a whole epoch of the longest procedures needs three bytes.
func TestLengthOfManyLongOnes(t *testing.T) {
	list := make([]journal.Newcomer, 64)
	for i := range list {
		list[i] = journal.Newcomer{Number: i + 1, Code: strings.Repeat("\x01", 2560)}
	}
	got := journal.Record(list)
	if want := 8 + 64*(6+2560); len(got) != want || int(binary.BigEndian.Uint32(got)) != want {
		t.Errorf("%d bytes, told as %x, want %d", len(got), got[:4], want)
	}
}

// lists are newcomers of some records.
func lists() [][]journal.Newcomer {
	return [][]journal.Newcomer{
		nil,
		{{Number: 1}},
		{{Number: 2, Code: "\x0a\x00"}},
		{{Number: 9, Code: "\x0b"}, {Number: 3}, {Number: 0xfffefdfc, Code: strings.Repeat("\x0b", 256)}},
	}
}

// What was written is read again, and what is behind it is left.
func TestCutOfWhatWasWritten(t *testing.T) {
	for _, behind := range []string{"", "\x00", "\x00\x00\x00\x08", strings.Repeat("\xff", 300), string(journal.Record(nil))} {
		for _, list := range lists() {
			log := append(journal.Record(list), behind...)
			was := bytes.Clone(log)
			newcomers, rest, ok := journal.Cut(log)
			if !ok || !slices.Equal(newcomers, list) || string(rest) != behind {
				t.Errorf("%v ahead of %x: %v, %x, %v", list, behind, newcomers, rest, ok)
			}
			clear(log[:len(log)-len(behind)])
			if !slices.Equal(newcomers, list) || !bytes.Equal(log[len(log)-len(behind):], was[len(was)-len(behind):]) {
				t.Errorf("%v: the log was kept or written into", list)
			}
		}
	}
}

func wantNoRecord(t *testing.T, what string, log []byte) {
	t.Helper()
	if newcomers, behind, ok := journal.Cut(log); ok || len(newcomers) > 0 || len(behind) > 0 {
		t.Errorf("%s: %x is no whole record, but %v, %x, %v", what, log, newcomers, behind, ok)
	}
}

// A record that ends within its length, within a newcomer or within its sum is not whole; nor is one with a byte that is not right.
func TestCutOfWhatIsNotWhole(t *testing.T) {
	for _, list := range lists() {
		record := journal.Record(list)
		for i := range record {
			wantNoRecord(t, "torn", record[:i])
			wrong := bytes.Clone(record)
			wrong[i] ^= 0x10
			wantNoRecord(t, "a wrong byte", wrong)
			wantNoRecord(t, "a wrong byte ahead of more", append(wrong, make([]byte, 100)...))
		}
	}
}

// A length that cannot be, under a sum that is right.
func TestCutOfWrongLengths(t *testing.T) {
	for _, c := range []struct{ what, text string }{
		{"a length of nothing", "\x00\x00\x00\x00"},
		{"a length of less than the sum's", "\x00\x00\x00\x07"},
		{"a length that is greater than the log", "\x00\x00\x00\x09"},
		{"the greatest length", "\xff\xff\xff\xff"},
		{"half a number", "\x00\x00\x00\x0a" + "\x00\x00"},
		{"no length of the code", "\x00\x00\x00\x0d" + "\x00\x00\x00\x01\x00"},
		{"a code that is longer than the record", "\x00\x00\x00\x10" + "\x00\x00\x00\x01\x00\x03\x0a\x00"},
		{"a byte behind the newcomers", "\x00\x00\x00\x10" + "\x00\x00\x00\x01\x00\x01\x0b\x00"},
	} {
		wantNoRecord(t, c.what, summed(c.text))
		wantNoRecord(t, c.what+", ahead of nothing else", []byte(c.text))
	}
	wantNoRecord(t, "an empty log", nil)
}

// Record behind record is cut off, until one is torn.
func TestCutOfManyRecords(t *testing.T) {
	var log []byte
	for _, list := range lists() {
		log = append(log, journal.Record(list)...)
	}
	log = append(log, journal.Record(nil)[:7]...)
	for _, list := range lists() {
		newcomers, behind, ok := journal.Cut(log)
		if !ok || !slices.Equal(newcomers, list) {
			t.Fatalf("%v, %v, want %v", newcomers, ok, list)
		}
		log = behind
	}
	wantNoRecord(t, "the last one", log)
}

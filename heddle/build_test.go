package heddle_test

import (
	"encoding/binary"
	"hash/fnv"
	"slices"
	"strings"
	"testing"

	"heddle/api"
	"heddle/heddle"
)

const least, greatest = -1 << 63, 1<<63 - 1

// con is a Const; op is any other instruction.
func con(r byte, n int) string {
	return string(binary.BigEndian.AppendUint64([]byte{api.Const, r}, uint64(n)))
}

func op(kind byte, operands ...byte) string {
	return string(append([]byte{kind}, operands...))
}

// get tells what stands under a key.
func get(key int) string    { return con(1, key) + op(api.Get, 2, 1) + op(api.Emit, 2) }
func has(key int) string    { return con(1, key) + op(api.Has, 2, 1) + op(api.Emit, 2) }
func put(key, n int) string { return con(1, key) + con(2, n) + op(api.Put, 1, 2) }
func del(key int) string    { return con(1, key) + op(api.Del, 1) }
func abort() string         { return op(api.Abort) }

// more adds so much under a key, and tells what stood there.
func more(key, n int) string {
	return get(key) + con(3, n) + op(api.Add, 2, 2, 3) + op(api.Put, 1, 2)
}

// filled is a procedure of so many bytes, 2 or more, that writes nothing.
func filled(size int) string {
	even := size - 3*(size%2)
	return strings.Repeat(op(api.Has, 0, 0), size%2) + strings.Repeat(con(0, 0), even/10) + strings.Repeat(op(api.Emit, 0), even%10/2)
}

// numbers gives the same row of numbers below a bound in every run.
func numbers(from uint64) func(below int) int {
	return func(below int) int {
		from = from*6364136223846793005 + 1442695040888963407
		return int(from >> 33 % uint64(below))
	}
}

// record is the record of an epoch with these newcomers.
func record(newcomers ...string) string {
	all := strings.Join(newcomers, "")
	all = string(binary.BigEndian.AppendUint32(nil, uint32(8+len(all)))) + all
	sum := fnv.New32a()
	sum.Write([]byte(all))
	return string(sum.Sum([]byte(all)))
}

func newcomer(number int, code string) string {
	b := binary.BigEndian.AppendUint32(nil, uint32(number))
	return string(binary.BigEndian.AppendUint16(b, uint16(len(code)))) + code
}

func roomy() api.Config { return api.Config{Workers: 4, Batch: 8, Queue: 20, Log: 100000} }

func made(t *testing.T, c api.Config) *heddle.Engine {
	t.Helper()
	e, err := heddle.New(c)
	if e == nil || err != api.OK {
		t.Fatalf("New(%+v) = %v, %d", c, e, err)
	}
	return e
}

// submit lets procedures wait, whose numbers must begin with first.
func submit(t *testing.T, e *heddle.Engine, first int, codes ...string) {
	t.Helper()
	for i, code := range codes {
		if number, err := e.Submit(code); number != first+i || err != api.OK {
			t.Fatalf("Submit = %d, %d, want %d", number, err, first+i)
		}
	}
}

func refused(t *testing.T, what string, e *heddle.Engine, code string, want api.Errno) {
	t.Helper()
	if number, err := e.Submit(code); number != 0 || err != want {
		t.Fatalf("%s: Submit = %d, %d, want 0, %d", what, number, err, want)
	}
}

func wantEpoch(t *testing.T, what string, e *heddle.Engine, want ...int) {
	t.Helper()
	if got, err := e.Epoch(); err != api.OK || !slices.Equal(got, want) {
		t.Fatalf("%s: Epoch = %v, %d, want %v", what, got, err, want)
	}
}

func wantFull(t *testing.T, what string, e *heddle.Engine) {
	t.Helper()
	if got, err := e.Epoch(); err != api.ErrFull || len(got) > 0 {
		t.Fatalf("%s: Epoch = %v, %d, want ErrFull", what, got, err)
	}
}

func wantWaiting(t *testing.T, what string, e *heddle.Engine, want ...int) {
	t.Helper()
	if got := e.Waiting(); !slices.Equal(got, want) {
		t.Fatalf("%s: Waiting = %v, want %v", what, got, want)
	}
}

func wantPairs(t *testing.T, what string, e *heddle.Engine, want ...api.Pair) {
	t.Helper()
	if got := e.Pairs(); !slices.Equal(got, want) {
		t.Fatalf("%s: Pairs = %v, want %v", what, got, want)
	}
}

func wantResult(t *testing.T, what string, e *heddle.Engine, id, state int, told ...int) {
	t.Helper()
	if got := e.Result(id); got.State != state || !slices.Equal(got.Told, told) {
		t.Fatalf("%s: Result(%d) = %+v, want %d, %v", what, id, got, state, told)
	}
}

func wantLog(t *testing.T, what string, e *heddle.Engine, want ...string) {
	t.Helper()
	if got := e.Log(); got != strings.Join(want, "") {
		t.Fatalf("%s: Log = %x, want %x", what, got, strings.Join(want, ""))
	}
}

func want(t *testing.T, what string, got, want api.Errno) {
	t.Helper()
	if got != want {
		t.Fatalf("%s = %d, want %d", what, got, want)
	}
}

func wantDown(t *testing.T, what string, e *heddle.Engine) {
	t.Helper()
	if got, err := e.Epoch(); err != api.ErrDown || len(got) > 0 {
		t.Fatalf("%s: Epoch = %v, %d, want ErrDown", what, got, err)
	}
}

func again(t *testing.T, e *heddle.Engine) {
	t.Helper()
	want(t, "Crash", e.Crash(), api.OK)
	want(t, "Restart", e.Restart(), api.OK)
}

// torn arms an engine and lets it go down in its next epoch.
func torn(t *testing.T, e *heddle.Engine, bytes int) {
	t.Helper()
	want(t, "Arm", e.Arm(bytes), api.OK)
	wantDown(t, "its write is torn", e)
}

// view is all that can be asked of an engine, also when it is down.
type view struct {
	waiting []int
	pairs   []api.Pair
	log     string
	results []api.Outcome
}

func viewOf(e *heddle.Engine) view {
	v := view{waiting: e.Waiting(), pairs: e.Pairs(), log: e.Log()}
	for id := -1; id < 30; id++ {
		v.results = append(v.results, e.Result(id))
	}
	return v
}

func wantView(t *testing.T, what string, e *heddle.Engine, want view) {
	t.Helper()
	wantWaiting(t, what, e, want.waiting...)
	wantPairs(t, what, e, want.pairs...)
	wantLog(t, what, e, want.log)
	for i, o := range want.results {
		wantResult(t, what, e, i-1, o.State, o.Told...)
	}
}

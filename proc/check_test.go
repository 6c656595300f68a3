package proc_test

import (
	"strings"
	"testing"

	"heddle/api"
	"heddle/proc"
)

func wantCheck(t *testing.T, what, code string, want api.Errno) {
	t.Helper()
	if got := proc.Check(code); got != want {
		t.Errorf("%s: Check(%x) = %d, want %d", what, code, got, want)
	}
	_, _, got := proc.Run(code, nil)
	if got != want {
		t.Errorf("%s: Run(%x) answers %d, want %d", what, code, got, want)
	}
}

func TestCheckTakesProcedures(t *testing.T) {
	wantCheck(t, "the empty text", "", api.OK)
	for _, code := range whole() {
		wantCheck(t, "one instruction", code, api.OK)
	}
	wantCheck(t, "all instructions", strings.Join(whole(), ""), api.OK)
	wantCheck(t, "behind an Abort", op(api.Abort)+emit(0), api.OK)
	wantCheck(t, "bytes of a number that are no instructions", con(0, -1)+con(1, 0), api.OK)
}

func TestCheckRefusesWhatIsNoInstruction(t *testing.T) {
	for kind := range 256 {
		if kind >= api.Const && kind <= api.Abort {
			continue
		}
		code := op(byte(kind))
		wantCheck(t, "alone", code, api.ErrCode)
		for size := 1; size <= 12; size++ { // However many operands it were taken to have.
			wantCheck(t, "with operands", code+strings.Repeat("\x00", size), api.ErrCode)
		}
		wantCheck(t, "at the end", emit(0)+code, api.ErrCode)
		wantCheck(t, "between others", emit(0)+code+emit(0), api.ErrCode)
		wantCheck(t, "behind an Abort", op(api.Abort)+code, api.ErrCode)
		wantCheck(t, "where it is passed over", con(1, 1)+op(api.Less, 0, 1, 1)+code, api.ErrCode)
	}
}

func TestCheckRefusesMissingOperands(t *testing.T) {
	for _, code := range append(whole(), op(api.Less, 0, 0, 0)) {
		for size := 1; size < len(code); size++ {
			wantCheck(t, "cut off", code[:size], api.ErrCode)
			wantCheck(t, "cut off behind another", emit(0)+code[:size], api.ErrCode)
		}
	}
}

func TestCheckRefusesWhatIsNoRegister(t *testing.T) {
	for _, c := range []struct {
		kind      byte
		registers int
		more      int
	}{
		{api.Const, 1, 8}, {api.Get, 2, 0}, {api.Has, 2, 0}, {api.Put, 2, 0}, {api.Del, 1, 0}, {api.Add, 3, 0},
		{api.Sub, 3, 0}, {api.Mul, 3, 0}, {api.Less, 2, 1}, {api.Emit, 1, 0},
	} {
		for at := range c.registers {
			for r := range 256 {
				code := make([]byte, 1+c.registers+c.more)
				code[0], code[1+at] = c.kind, byte(r)
				want := api.ErrCode
				if r < 8 {
					want = api.OK
				}
				wantCheck(t, "a register", string(code), want)
			}
		}
	}
}

func TestCheckCountsInstructions(t *testing.T) {
	for _, code := range append(whole(), op(api.Less, 0, 0, 0)) {
		wantCheck(t, "255", strings.Repeat(code, 255), api.OK)
		wantCheck(t, "256", strings.Repeat(code, 256), api.OK)
		wantCheck(t, "257", strings.Repeat(code, 257), api.ErrCode)
		wantCheck(t, "very many", strings.Repeat(code, 100000), api.ErrCode)
	}
	wantCheck(t, "256, then a piece", strings.Repeat(emit(0), 256)+op(api.Emit), api.ErrCode)
}

func TestCheckBoundsLess(t *testing.T) {
	// The instructions behind it are counted, not their bytes: so with long and short ones.
	for _, behind := range []string{op(api.Abort), emit(0), con(0, 0), op(api.Less, 0, 0, 0)} {
		for _, n := range []int{0, 1, 2, 100, 254, 255} {
			for _, ahead := range []int{0, 1} {
				if ahead+1+n > 256 {
					continue
				}
				code := strings.Repeat(emit(0), ahead) + op(api.Less, 0, 1, byte(n))
				wantCheck(t, "it just reaches the end", code+strings.Repeat(behind, n), api.OK)
				if n > 0 {
					wantCheck(t, "one more", code+strings.Repeat(behind, n-1), api.ErrCode)
				}
			}
		}
	}
	wantCheck(t, "the last of 256, n is 1", strings.Repeat(emit(0), 255)+op(api.Less, 0, 0, 1), api.ErrCode)
	wantCheck(t, "the last of 256, n is 0", strings.Repeat(emit(0), 255)+op(api.Less, 0, 0, 0), api.OK)
	wantCheck(t, "the second of two is too great", op(api.Less, 0, 0, 1)+op(api.Less, 0, 0, 1), api.ErrCode)
	wantCheck(t, "behind an Abort", op(api.Abort)+op(api.Less, 0, 0, 1), api.ErrCode)
}

// Every text of up to 2 bytes, and many longer ones, have an answer, which is one of the two.
func TestCheckAnswersAtAllTexts(t *testing.T) {
	for a := range 256 {
		wantAnswer(t, op(byte(a)))
		for b := range 256 {
			wantAnswer(t, op(byte(a), byte(b)))
		}
	}
	next := numbers(1)
	for range 20000 {
		code := make([]byte, next(40))
		for i := range code {
			code[i] = byte(next(13))
		}
		wantAnswer(t, string(code))
	}
}

func wantAnswer(t *testing.T, code string) {
	t.Helper()
	e := proc.Check(code)
	if e != api.OK && e != api.ErrCode {
		t.Fatalf("Check(%x) = %d", code, e)
	}
	if _, _, got := proc.Run(code, nil); got != e {
		t.Fatalf("Run(%x) answers %d, Check %d", code, got, e)
	}
}

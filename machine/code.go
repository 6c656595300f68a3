package machine

import "heddle/api"

// instruction is one instruction of a code, its operands taken apart.
type instruction struct {
	kind   byte
	on     [3]byte // the registers, as they come in the code
	number int     // the number of Const, the n of Less
}

// IsProcedure tells whether a code is a procedure.
func IsProcedure(code string) bool {
	_, ok := decode(code)
	return ok
}

// decode takes a code apart; it answers false if the code is no procedure.
func decode(code string) ([]instruction, bool) {
	var list []instruction
	for code != "" {
		// Asked ahead of each one, so that a text of any length is left soon.
		if len(list) == api.MaxOps {
			return nil, false
		}
		in, rest, ok := cut(code)
		if !ok {
			return nil, false
		}
		list = append(list, in)
		code = rest
	}
	if !passesWithin(list) {
		return nil, false
	}
	return list, true
}

// cut takes the first instruction off a code that is not empty.
func cut(code string) (instruction, string, bool) {
	in := instruction{kind: code[0]}
	registers, more, ok := operands(in.kind)
	size := 1 + registers + more
	if !ok || len(code) < size {
		return instruction{}, "", false
	}
	for i := range registers {
		r := code[1+i]
		if r >= api.Registers {
			return instruction{}, "", false
		}
		in.on[i] = r
	}
	in.number = number(code[1+registers : size])
	return in, code[size:], true
}

// operands tells how many registers an instruction has, and how many bytes more behind them.
func operands(kind byte) (registers, more int, ok bool) {
	switch kind {
	case api.Const:
		return 1, 8, true
	case api.Get, api.Has, api.Put:
		return 2, 0, true
	case api.Del, api.Emit:
		return 1, 0, true
	case api.Add, api.Sub, api.Mul:
		return 3, 0, true
	case api.Less:
		return 2, 1, true
	case api.Abort:
		return 0, 0, true
	}
	return 0, 0, false
}

// number reads bytes, the highest first; only all 8 of them reach the sign.
func number(text string) int {
	var n uint64
	for i := range len(text) {
		n = n<<8 | uint64(text[i])
	}
	return int(n)
}

// passesWithin tells whether every Less has as many instructions behind it as it may pass over.
func passesWithin(list []instruction) bool {
	for at, in := range list {
		behind := len(list) - at - 1
		if in.kind == api.Less && in.number > behind {
			return false
		}
	}
	return true
}

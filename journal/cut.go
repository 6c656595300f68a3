package journal

// Cut takes the first record off a log, and tells its newcomers and what of the log is behind it; it answers false if the log does not begin with a whole record. The log is not kept.
func Cut(log []byte) (newcomers []Newcomer, behind []byte, ok bool) {
	size, ok := whole(log)
	if !ok {
		return nil, nil, false
	}
	newcomers, ok = takeNewcomers(log[lengthSize : size-sumSize])
	if !ok {
		return nil, nil, false
	}
	return newcomers, log[size:], true
}

// whole tells how many bytes the first record of a log has; it answers false if its length or its sum is not right.
func whole(log []byte) (int, bool) {
	if len(log) < lengthSize+sumSize {
		return 0, false
	}
	size := number(log[:lengthSize])
	if size < lengthSize+sumSize || size > len(log) {
		return 0, false
	}
	end := size - sumSize
	return size, uint32(number(log[end:size])) == sum(log[:end])
}

// takeNewcomers takes apart what stands between a record's length and its sum; it answers false if that is no row of newcomers, and so the length is not right.
func takeNewcomers(text []byte) ([]Newcomer, bool) {
	var list []Newcomer
	for len(text) > 0 {
		if len(text) < numberSize+codeSize {
			return nil, false
		}
		code := text[numberSize+codeSize:]
		size := number(text[numberSize : numberSize+codeSize])
		if size > len(code) {
			return nil, false
		}
		list = append(list, Newcomer{Number: number(text[:numberSize]), Code: string(code[:size])})
		text = code[size:]
	}
	return list, true
}

// number reads bytes, the highest first.
func number(text []byte) int {
	n := 0
	for _, b := range text {
		n = n<<8 | int(b)
	}
	return n
}
